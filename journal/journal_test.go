package journal

import (
	"bytes"
	"math"
	"slices"
	"testing"

	"drydock/api"
	"drydock/disk"
	"drydock/log"
	"drydock/super"
)

// filled is a block that tells its number in its first bytes, and is of one byte else.
func filled(n int) []byte {
	b := bytes.Repeat([]byte{byte(n)}, 64)
	b[0], b[1], b[2] = byte(n>>16), byte(n>>8), byte(n)
	return b
}

// numbers is the same row of numbers for the same seed.
func numbers(seed uint32) func(n int) int {
	return func(n int) int {
		seed = seed*1664525 + 1013904223
		return int(seed>>8) % n
	}
}

// places are all blocks of a disk that may be written: not the head, not the log.
func places(size int) []int {
	var list []int
	for n := range size {
		if n == 0 || n >= 2 && n <= 18 || n >= 59 {
			list = append(list, n)
		}
	}
	return list
}

// some are so many writes, each elsewhere, from one of the places on.
func some(size, count, from int) []api.Write {
	at := places(size)
	var list []api.Write
	for i := range count {
		list = append(list, api.Write{At: at[(from+i)%len(at)], Data: filled(1000*from + 7*i + 1)})
	}
	return list
}

func head(at, seq int) api.Head { return api.Head{At: at, Seq: seq} }

func headOf(t *testing.T, h api.Head) []byte {
	t.Helper()
	b, e := super.PutHead(h)
	if e != api.OK {
		t.Fatalf("PutHead(%v): %d", h, e)
	}
	return b
}

func newDisk(t *testing.T, size int) *disk.Disk {
	t.Helper()
	d, e := disk.New(size)
	if e != api.OK {
		t.Fatalf("New(%d): %d", size, e)
	}
	return d
}

func lay(t *testing.T, d *disk.Disk, list ...api.Write) {
	t.Helper()
	if e := d.Put(list...); e != api.OK {
		t.Fatalf("Put: %d", e)
	}
}

func settle(t *testing.T, d *disk.Disk) {
	t.Helper()
	if e := d.Barrier(); e != api.OK {
		t.Fatalf("Barrier: %d", e)
	}
}

// ready is a disk whose blocks are all others, whose log is bytes 0, and whose head is h.
func ready(t *testing.T, size int, h api.Head) *disk.Disk {
	t.Helper()
	d := newDisk(t, size)
	for _, n := range places(size) {
		lay(t, d, api.Write{At: n, Data: filled(n + 500000)})
	}
	lay(t, d, api.Write{At: 1, Data: headOf(t, h)})
	settle(t, d)
	return d
}

// all are the blocks of a disk.
func all(t *testing.T, d *disk.Disk) [][]byte {
	t.Helper()
	var list [][]byte
	for n := range d.Blocks() {
		b, e := d.Get(n)
		if e != api.OK {
			t.Fatalf("Get(%d): %d", n, e)
		}
		list = append(list, b)
	}
	return list
}

// copied is a disk of the same blocks, all of which last.
func copied(t *testing.T, d *disk.Disk) *disk.Disk {
	t.Helper()
	c := newDisk(t, d.Blocks())
	for n, b := range all(t, d) {
		lay(t, c, api.Write{At: n, Data: b})
	}
	settle(t, c)
	return c
}

// held leaves the head and the log out of blocks: what is left is what the journal holds.
func held(blocks [][]byte) [][]byte {
	var list [][]byte
	for _, n := range places(len(blocks)) {
		list = append(list, blocks[n])
	}
	return list
}

// butHead leaves the head alone out of blocks: what is left is the same behind Open as Look answers it.
func butHead(blocks [][]byte) [][]byte {
	return slices.Delete(slices.Clone(blocks), 1, 2)
}

// over are blocks with writes put over them.
func over(blocks [][]byte, list ...api.Write) [][]byte {
	blocks = slices.Clone(blocks)
	for _, w := range list {
		blocks[w.At] = bytes.Clone(w.Data)
	}
	return blocks
}

func same(a, b [][]byte) bool { return slices.EqualFunc(a, b, bytes.Equal) }

func opened(t *testing.T, d *disk.Disk) *Journal {
	t.Helper()
	j, e := Open(d)
	if j == nil || e != api.OK {
		t.Fatalf("Open: %v %d", j, e)
	}
	return j
}

func looked(t *testing.T, d *disk.Disk) [][]byte {
	t.Helper()
	blocks, e := Look(d)
	if e != api.OK || len(blocks) != d.Blocks() {
		t.Fatalf("Look: %d blocks of %d, %d", len(blocks), d.Blocks(), e)
	}
	return blocks
}

func commits(t *testing.T, j *Journal, want api.Errno, list ...api.Write) {
	t.Helper()
	if e := j.Commit(list...); e != want {
		t.Fatalf("Commit of %d: %d, not %d", len(list), e, want)
	}
}

// refuses sees that neither Look nor Open takes a disk, that nothing stands beside the error, and that no step of the disk is done.
func refuses(t *testing.T, d *disk.Disk, want api.Errno) {
	t.Helper()
	if blocks, e := Look(d); e != want || blocks != nil {
		t.Fatalf("Look: %v %d, not %d", blocks, e, want)
	}
	if j, e := Open(d); e != want || j != nil {
		t.Fatalf("Open: %v %d, not %d", j, e, want)
	}
}

// unchanged sees that the same blocks lie on a disk, and as many of their writes may not last.
func unchanged(t *testing.T, d *disk.Disk, what string, work func()) {
	t.Helper()
	before := all(t, d)
	var open []int
	for n := range before {
		open = append(open, d.Open(n))
	}
	work()
	if !same(all(t, d), before) {
		t.Fatalf("%s has changed the disk", what)
	}
	for n, k := range open {
		if d.Open(n) != k {
			t.Fatalf("%s: block %d has %d open writes, not %d", what, n, d.Open(n), k)
		}
	}
}

// lasts sees that nothing is open, and that a loss takes nothing away.
func lasts(t *testing.T, d *disk.Disk) {
	t.Helper()
	before := all(t, d)
	for n := range before {
		if d.Open(n) != 0 {
			t.Fatalf("block %d has %d open writes", n, d.Open(n))
		}
	}
	d.Restart()
	if !same(all(t, d), before) {
		t.Fatal("something did not last")
	}
}

// told sees that a Head is that of what lies on the disk, or a later one.
func told(t *testing.T, d *disk.Disk, j *Journal) {
	t.Helper()
	b, _ := d.Get(1)
	h, e := super.GetHead(b)
	if e != api.OK || h.Seq > j.Head().Seq || h.Seq == j.Head().Seq && h != j.Head() {
		t.Fatalf("Head: %v, and on the disk %v %d", j.Head(), h, e)
	}
}

// transaction is one as it stands in a log from a place on.
func transaction(t *testing.T, h api.Head, list ...api.Write) []api.Write {
	t.Helper()
	var to []int
	for _, w := range list {
		to = append(to, w.At)
	}
	first, e := log.Begin(api.Descriptor{Seq: h.Seq, To: to})
	last, f := log.End(h.Seq, len(list))
	if e != api.OK || f != api.OK {
		t.Fatalf("Begin, End of %v: %d %d", h, e, f)
	}
	blocks := [][]byte{first}
	for _, w := range list {
		blocks = append(blocks, w.Data)
	}
	var laid []api.Write
	for i, b := range append(blocks, last) {
		laid = append(laid, api.Write{At: 19 + (h.At+i)%40, Data: b})
	}
	return laid
}

// behind is the head behind a transaction of so many blocks.
func behind(h api.Head, count int) api.Head { return head((h.At+count+2)%40, h.Seq+1) }

// P16.1: no disk, and one with fewer blocks than a log needs, whatever lies on it, with power and without.
func TestNoDisk(t *testing.T) {
	refuses(t, nil, api.ErrArg)
	refuses(t, &disk.Disk{}, api.ErrArg)
	for size := 1; size < 64; size++ {
		d := newDisk(t, size)
		refuses(t, d, api.ErrArg)
		if size > 1 {
			lay(t, d, api.Write{At: 1, Data: headOf(t, head(0, 1))})
		}
		d.Fail(0)
		refuses(t, d, api.ErrArg)
		if e := d.Barrier(); e != api.ErrPower {
			t.Fatalf("Barrier: %d", e)
		}
		refuses(t, d, api.ErrArg)
	}
	for _, size := range []int{64, 65, 480} {
		looked(t, ready(t, size, head(0, 1)))
		opened(t, ready(t, size, head(0, 1)))
	}
}

// P16.1: no Head; without power that is not told.
func TestNoHead(t *testing.T) {
	for _, size := range []int{64, 480} {
		d := newDisk(t, size)
		d.Fail(0)
		refuses(t, d, api.ErrForm)
		if e := d.Barrier(); e != api.ErrPower {
			t.Fatalf("Barrier: %d", e)
		}
		refuses(t, d, api.ErrPower)
		d = ready(t, size, head(0, 1))
		d.Fail(0)
		d.Barrier()
		refuses(t, d, api.ErrPower)
		d.Restart()
		looked(t, d)
	}
	d := ready(t, 64, head(7, 9))
	good := headOf(t, head(7, 9))
	told, _ := super.Encode(api.Super{Size: 64, Format: 1})
	first, _ := log.Begin(api.Descriptor{Seq: 1, To: []int{60}})
	bad := [][]byte{make([]byte, 64), bytes.Repeat([]byte{255}, 64), told, first}
	for at := range 64 {
		for bit := range 8 {
			b := bytes.Clone(good)
			b[at] ^= 1 << bit
			bad = append(bad, b)
		}
	}
	for _, b := range bad {
		lay(t, d, api.Write{At: 1, Data: b}, api.Write{At: 60, Data: filled(3)})
		unchanged(t, d, "what was refused", func() { refuses(t, d, api.ErrForm) })
	}
	lay(t, d, api.Write{At: 1, Data: good})
	looked(t, d)
}

// P16.1: each head is taken, and told, at its ends too.
func TestHeads(t *testing.T) {
	for at := range 40 {
		for _, seq := range []int{1, 2, 255, 256, 1<<24 + 7, 1<<30 - 1, 1 << 30} {
			d := ready(t, 64, head(at, seq))
			before := all(t, d)
			if !same(looked(t, d), before) {
				t.Fatalf("Look at %d, %d", at, seq)
			}
			j := opened(t, d)
			if j.Head() != head(at, seq) || !same(butHead(all(t, d)), butHead(before)) {
				t.Fatalf("Open at %d, %d: %v", at, seq, j.Head())
			}
			told(t, d, j)
			lasts(t, d)
		}
	}
}

// logs lays rows of transactions round a ring, and answers all that they write, in order, and the head behind.
func logs(t *testing.T, d *disk.Disk, h api.Head, counts []int, next func(int) int) ([]api.Write, api.Head) {
	t.Helper()
	at := places(d.Blocks())
	var done []api.Write
	for _, count := range counts {
		var list []api.Write
		from, by := next(len(at)), 1+next(2)
		if len(at) < 2*count {
			by = 1
		}
		for i := range count {
			list = append(list, api.Write{At: at[(from+by*i)%len(at)], Data: filled(next(1 << 23))})
		}
		lay(t, d, transaction(t, h, list...)...)
		done = append(done, list...)
		h = behind(h, count)
	}
	return done, h
}

// sees that Look tells what Open does, that it is the writes put over the blocks in order, and that Open leaves nothing to do.
func sees(t *testing.T, d *disk.Disk, done []api.Write, h api.Head) {
	t.Helper()
	before := all(t, d)
	want := over(before, done...)
	d.Fail(0)
	unchanged(t, d, "Look", func() {
		for range 2 {
			if !same(looked(t, d), want) {
				t.Fatal("Look is not what the log says")
			}
		}
	})
	d.Fail(-1)
	j := opened(t, d)
	if j.Head() != h {
		t.Fatalf("Head: %v, not %v", j.Head(), h)
	}
	told(t, d, j)
	for range 2 {
		lasts(t, d)
		if got := all(t, d); !same(butHead(got), butHead(want)) || !same(butHead(looked(t, d)), butHead(want)) {
			t.Fatal("Open is not what Look says")
		}
		if again := opened(t, d); again.Head() != h {
			t.Fatalf("Head: %v, not %v", again.Head(), h)
		}
	}
}

// P16.1: what a log says is done, for each count and place, and for rows that fill the ring.
func TestLogIsDone(t *testing.T) {
	next := numbers(16)
	for at := range 40 {
		for _, size := range []int{64, 480} {
			for _, counts := range [][]int{{}, {1}, {2}, {3, 1}, {18, 18}, {20, 16}, {1, 20, 13}, slices.Repeat([]int{1}, 13), {2, 2, 2, 2, 2, 2, 2, 2, 2, 2}, {5, 4, 3, 2, 1}} {
				d := ready(t, size, head(at, 70+at))
				done, h := logs(t, d, head(at, 70+at), counts, next)
				settle(t, d)
				sees(t, d, done, h)
			}
		}
	}
	for count := 1; count <= 20; count++ {
		d := ready(t, 64, head(25, 1<<30-1))
		done, h := logs(t, d, head(25, 1<<30-1), []int{count}, next)
		sees(t, d, done, h)
		if h.Seq != 1<<30 {
			t.Fatalf("%v", h)
		}
	}
}

// P16.1: later writes lie over earlier ones of the same block.
func TestLogInOrder(t *testing.T) {
	for _, size := range []int{64, 480} {
		d := ready(t, size, head(38, 4))
		h := head(38, 4)
		var done []api.Write
		for i := range 6 {
			list := []api.Write{{At: 0, Data: filled(10 * i)}, {At: 2 + i, Data: filled(10*i + 1)}, {At: size - 1, Data: filled(10*i + 2)}, {At: 3 + i, Data: filled(10*i + 3)}}
			lay(t, d, transaction(t, h, list...)...)
			done, h = append(done, list...), behind(h, 4)
		}
		sees(t, d, done, h)
		b, e := d.Get(0)
		c, f := d.Get(size - 1)
		if e != api.OK || f != api.OK || !bytes.Equal(b, filled(50)) || !bytes.Equal(c, filled(52)) {
			t.Fatalf("%v %v", b, c)
		}
	}
}

// P16.1: a transaction that is not whole, or of another number, is none; those ahead of it are.
func TestLogNotWhole(t *testing.T) {
	for whole := range 2 {
		for kind := range 6 {
			d := ready(t, 64, head(33, 8))
			h := head(33, 8)
			var done []api.Write
			for range whole {
				done = some(64, 2, 9)
				lay(t, d, transaction(t, h, done...)...)
				h = behind(h, 2)
			}
			list := some(64, 3, 20)
			laid := transaction(t, h, list...)
			switch kind {
			case 0:
				laid = laid[1:]
			case 1:
				laid = laid[:4]
			case 2:
				laid[4].At = laid[3].At
			case 3:
				laid[4].Data = lastOf(t, h.Seq+1, 3)
			case 4:
				laid[4].Data = lastOf(t, h.Seq, 2)
			case 5:
				laid = transaction(t, head(h.At, h.Seq+1), list...)
			}
			lay(t, d, laid...)
			sees(t, d, done, h)
		}
	}
}

// P16.1: a log that says of blocks that this disk does not have.
func TestLogBeyondTheDisk(t *testing.T) {
	d := ready(t, 64, head(3, 3))
	list := []api.Write{{At: 479, Data: filled(1)}, {At: 63, Data: filled(2)}, {At: 64, Data: filled(3)}, {At: 0, Data: filled(4)}, {At: 65, Data: filled(5)}}
	lay(t, d, transaction(t, head(3, 3), list...)...)
	lay(t, d, transaction(t, behind(head(3, 3), 5), api.Write{At: 64, Data: filled(6)})...)
	sees(t, d, []api.Write{list[1], list[3]}, head((3+7+3)%40, 5))
	d = ready(t, 480, head(3, 3))
	lay(t, d, transaction(t, head(3, 3), list...)...)
	sees(t, d, list, behind(head(3, 3), 5))
}

// P16.1: what was put ahead of Open lasts behind it, though no barrier came between.
func TestOpenMakesLast(t *testing.T) {
	d := ready(t, 64, head(0, 1))
	lay(t, d, api.Write{At: 63, Data: filled(1)}, api.Write{At: 63, Data: filled(2)}, api.Write{At: 2, Data: filled(3)})
	lay(t, d, transaction(t, head(0, 1), some(64, 4, 5)...)...)
	want := looked(t, d)
	opened(t, d)
	lasts(t, d)
	if !same(butHead(all(t, d)), butHead(want)) {
		t.Fatal("Open is not what Look says")
	}
}

// P16.1: nothing that the log says lasts ahead of the log.
func TestOpenMakesTheLogLastFirst(t *testing.T) {
	const steps = 40
	list := some(64, 4, 5)
	for after := range steps {
		d := ready(t, 64, head(0, 1))
		before := held(all(t, d))
		lay(t, d, transaction(t, head(0, 1), list...)...)
		want := held(over(all(t, d), list...))
		d.Fail(after)
		j, e := Open(d)
		if e == api.OK {
			return
		}
		if e != api.ErrPower || j != nil {
			t.Fatalf("Open: %v %d", j, e)
		}
		keep := slices.Repeat([]int{9}, 64)
		clear(keep[19:59])
		d.Restart(keep...)
		opened(t, d)
		if got := held(all(t, d)); !same(got, before) && !same(got, want) {
			t.Fatalf("the power goes behind %d steps: neither all nor none", after)
		}
	}
	t.Fatal("Open has no end")
}

// lie are blocks that may lie in a log: of bytes, and of first and last ones of a number near this one.
func lie(t *testing.T, seq int) [][]byte {
	t.Helper()
	list := [][]byte{append([]byte{1}, make([]byte, 63)...), bytes.Repeat([]byte{200}, 64), filled(77), headOf(t, head(0, seq))}
	for _, n := range []int{seq - 1, seq, seq + 1} {
		list = append(list, firstOf(t, n, 63), firstOf(t, n, places(64)[2:22]...), lastOf(t, n, 1), lastOf(t, n, 20))
	}
	return list
}

// P16.1: the block of the log at which the head stands, and those about it, are behind Open as Look answers them, whatever they are.
func TestOpenLeavesTheLog(t *testing.T) {
	for _, h := range []api.Head{head(0, 2), head(7, 5), head(38, 1<<30-2), head(39, 1<<30-1)} {
		for _, b := range lie(t, h.Seq) {
			for _, at := range []int{h.At, (h.At + 1) % 40, (h.At + 39) % 40} {
				d := ready(t, 64, h)
				lay(t, d, api.Write{At: 19 + at, Data: b})
				settle(t, d)
				sees(t, d, nil, h)
				if got, e := opened(t, d).Read(19 + at); e != api.OK || !bytes.Equal(got, b) {
					t.Fatalf("block %d of the log, head %v: %v %d, not %v", at, h, got, e, b)
				}
				openLosses(t, d, nil)
			}
			d := ready(t, 64, h)
			for n := 19; n < 59; n++ {
				lay(t, d, api.Write{At: n, Data: b})
			}
			sees(t, d, nil, h)
		}
	}
}

// P16.1: Open writes nothing but what Look answers, and the Head, wherever the power goes in it.
func TestOpenWritesNothingElse(t *testing.T) {
	const steps = 40
	list := some(64, 5, 9)
	ends := 0
	for after := range steps {
		for _, laid := range [][]api.Write{nil, transaction(t, head(37, 4), list...)} {
			d := ready(t, 64, head(37, 4))
			for n := 19; n < 59; n++ {
				lay(t, d, api.Write{At: n, Data: firstOf(t, 5, 63)})
			}
			lay(t, d, laid...)
			settle(t, d)
			before, want := all(t, d), looked(t, d)
			d.Fail(after)
			if _, e := Open(d); e == api.OK {
				ends++
			}
			for n := range 64 {
				if n != 1 && d.Open(n) > 0 && bytes.Equal(want[n], before[n]) {
					t.Fatalf("behind %d steps block %d is written, which the log does not tell of", after, n)
				}
			}
			d.Restart(slices.Repeat([]int{1}, 64)...)
			for n, b := range all(t, d) {
				if n != 1 && !bytes.Equal(b, before[n]) && !bytes.Equal(b, want[n]) {
					t.Fatalf("behind %d steps block %d is neither what it was nor what Look answers", after, n)
				}
			}
		}
	}
	if ends == 0 || ends == 2*steps {
		t.Fatalf("Open ends %d times", ends)
	}
}

// P16.2: commits of each count, at each place of the log, one behind the other: they are written, and last.
func TestCommit(t *testing.T) {
	for _, size := range []int{64, 67, 480} {
		for at := range 40 {
			d := ready(t, size, head(at, 100))
			j := opened(t, d)
			h := head(at, 100)
			for i := range 20 {
				count := 1 + (at+7*i)%20
				if j.Head() != h {
					t.Fatalf("Head: %v, not %v", j.Head(), h)
				}
				list := some(size, min(count, len(places(size))), at+31*i)
				want := held(over(all(t, d), list...))
				commits(t, j, api.OK, list...)
				told(t, d, j)
				lasts(t, d)
				if !same(held(all(t, d)), want) || !same(held(looked(t, d)), want) {
					t.Fatalf("commit %d at %v is not what lies there", i, h)
				}
				for _, w := range list {
					if b, e := j.Read(w.At); e != api.OK || !bytes.Equal(b, w.Data) {
						t.Fatalf("Read(%d): %v %d", w.At, b, e)
					}
				}
				h = behind(h, len(list))
			}
			if again := opened(t, d); again.Head() != h {
				t.Fatalf("Head: %v, not %v", again.Head(), h)
			}
		}
	}
}

// P16.2: each block that there is may be written, and read, alone and among others.
func TestCommitEverywhere(t *testing.T) {
	d := ready(t, 480, head(0, 1))
	j := opened(t, d)
	want := all(t, d)
	for i, n := range places(480) {
		list := []api.Write{{At: n, Data: filled(i + 10000)}}
		if i%3 == 0 {
			list = append(list, some(480, 5, i+1)...)
		}
		want = over(want, list...)
		commits(t, j, api.OK, list...)
	}
	if !same(held(all(t, d)), held(want)) {
		t.Fatal("the commits are not what lies there")
	}
	for n, b := range all(t, d) {
		if got, e := j.Read(n); e != api.OK || !bytes.Equal(got, b) {
			t.Fatalf("Read(%d): %v %d", n, got, e)
		}
	}
	for _, n := range []int{math.MinInt, -1 << 32, -480, -1, 480, 481, 1 << 32, math.MaxInt} {
		if b, e := j.Read(n); e != api.ErrRange || b != nil {
			t.Errorf("Read(%d): %v %d", n, b, e)
		}
	}
}

// errs sees that a commit is refused, that it changed nothing, and that no step of the disk was done.
func errs(t *testing.T, d *disk.Disk, j *Journal, want api.Errno, list ...api.Write) {
	t.Helper()
	d.Fail(0)
	h := j.Head()
	unchanged(t, d, "a commit that was refused", func() { commits(t, j, want, list...) })
	if j.Head() != h {
		t.Fatalf("Head: %v, not %v", j.Head(), h)
	}
	d.Fail(-1)
}

// P16.2: none, too many, and what no transaction may have, in each place of it.
func TestCommitRefuses(t *testing.T) {
	for _, size := range []int{64, 66, 480} {
		d := ready(t, size, head(11, 5))
		j := opened(t, d)
		errs(t, d, j, api.OK)
		errs(t, d, j, api.OK, []api.Write{}...)
		for _, count := range []int{21, 22, 40, 300} {
			errs(t, d, j, api.ErrArg, some(480, count, 0)...)
			errs(t, d, j, api.ErrArg, make([]api.Write, count)...)
		}
		bad := []api.Write{{}, {At: 60}, {At: 60, Data: []byte{}}, {At: 60, Data: filled(1)[:63]}, {At: 60, Data: append(filled(1), 0)}, {At: 60, Data: make([]byte, 128)}}
		for _, n := range []int{math.MinInt, math.MinInt32, -1 << 32, -1 << 16, -480, -1, 1, 19, 20, 40, 57, 58, size, size + 1, 480, 511, 512, 1 << 16, 1<<16 + 60, 1 << 32, 1<<32 + 60, math.MaxInt32, math.MaxInt} {
			bad = append(bad, api.Write{At: n, Data: filled(2)})
		}
		for _, w := range bad {
			for count := range 20 {
				for _, place := range []int{0, count / 2, count} {
					errs(t, d, j, api.ErrArg, slices.Insert(some(size, count, 2), place, w)...)
				}
			}
		}
		for i := range 20 {
			for k := range i {
				list := some(size, 20, 1)
				list[i].At = list[k].At
				errs(t, d, j, api.ErrArg, list...)
			}
		}
		commits(t, j, api.OK, some(size, 20, 1)...)
	}
}

// P16.2: numbers at their end; what ErrFull is told ahead of, and behind.
func TestCommitFull(t *testing.T) {
	d := ready(t, 64, head(39, 1<<30-3))
	j := opened(t, d)
	for i := range 3 {
		list := some(64, 2, 3*i)
		want := held(over(all(t, d), list...))
		commits(t, j, api.OK, list...)
		if j.Head() != head((39+4*(i+1))%40, 1<<30-2+i) || !same(held(all(t, d)), want) {
			t.Fatalf("Head: %v", j.Head())
		}
	}
	for range 2 {
		errs(t, d, j, api.OK)
		errs(t, d, j, api.ErrArg, make([]api.Write, 21)...)
		errs(t, d, j, api.ErrFull, some(64, 1, 0)...)
		errs(t, d, j, api.ErrFull, some(64, 20, 0)...)
		errs(t, d, j, api.ErrFull, api.Write{})
		errs(t, d, j, api.ErrFull, api.Write{At: -1, Data: filled(1)}, api.Write{At: 60, Data: nil})
		if b, e := j.Read(63); e != api.OK || b == nil {
			t.Fatalf("Read: %v %d", b, e)
		}
		j = opened(t, d)
	}
}

// dark sees that a journal answers nothing but that the power is gone.
func dark(t *testing.T, j *Journal) {
	t.Helper()
	commits(t, j, api.ErrPower)
	commits(t, j, api.ErrPower, some(64, 3, 0)...)
	commits(t, j, api.ErrPower, make([]api.Write, 21)...)
	commits(t, j, api.ErrPower, api.Write{At: -1})
	for _, n := range []int{math.MinInt, -1, 0, 1, 63, 64, math.MaxInt} {
		if b, e := j.Read(n); e != api.ErrPower || b != nil {
			t.Fatalf("Read(%d): %v %d", n, b, e)
		}
	}
}

// P16.2: that the power is gone is kept, whichever call answered so, behind a Restart too.
func TestGoneIsKept(t *testing.T) {
	for after := range 12 {
		d := ready(t, 64, head(5, 5))
		j := opened(t, d)
		d.Fail(after)
		commits(t, j, api.ErrPower, some(64, 5, 5)...)
		dark(t, j)
		told := j.Head()
		d.Restart()
		before := all(t, d)
		dark(t, j)
		if j.Head() != told || !same(all(t, d), before) {
			t.Fatal("a journal without power has changed something")
		}
		commits(t, opened(t, d), api.OK, some(64, 5, 5)...)
		dark(t, j)
	}
	d := ready(t, 64, head(5, 5))
	j := opened(t, d)
	d.Fail(0)
	d.Barrier()
	commits(t, j, api.OK)
	commits(t, j, api.ErrArg, make([]api.Write, 21)...)
	commits(t, j, api.ErrArg, api.Write{})
	if b, e := j.Read(-1); e != api.ErrPower || b != nil {
		t.Fatalf("Read: %v %d", b, e)
	}
	dark(t, j)
	d.Restart()
	dark(t, j)
}

// P16.1, P16.2: what no call answered is not kept: errors of other kinds, and a power that goes behind the last step.
func TestOtherErrorsAreNotKept(t *testing.T) {
	d := ready(t, 64, head(5, 5))
	j := opened(t, d)
	commits(t, j, api.ErrArg, api.Write{})
	if _, e := j.Read(64); e != api.ErrRange {
		t.Fatalf("Read: %d", e)
	}
	commits(t, j, api.OK, some(64, 2, 0)...)
	if b, e := j.Read(0); e != api.OK || !bytes.Equal(b, some(64, 1, 0)[0].Data) {
		t.Fatalf("Read: %v %d", b, e)
	}
}

// choices are what may last of a disk's open writes: all choices, or, if they are many, the ends and some.
func choices(d *disk.Disk, next func(int) int) [][]int {
	var open []int
	count, size := 1, d.Blocks()
	for n := range size {
		if k := d.Open(n); k > 0 {
			open = append(open, n)
			count = min(count*(k+1), 1<<20)
		}
	}
	list := [][]int{nil, slices.Repeat([]int{math.MaxInt}, size)}
	if count > 70 {
		for range 20 {
			keep := make([]int, size)
			for _, n := range open {
				keep[n] = next(d.Open(n) + 1)
			}
			list = append(list, keep)
		}
		return list
	}
	for i := range count {
		keep := make([]int, size)
		for _, n := range open {
			keep[n], i = i%(d.Open(n)+1), i/(d.Open(n)+1)
		}
		list = append(list, keep)
	}
	return list
}

// losses goes through what a disk may be when the power goes in the middle of work on it: with each step, and with each choice. The work is made ready while there is power.
func losses(t *testing.T, d *disk.Disk, ready func(*disk.Disk) func() api.Errno, visit func(*disk.Disk)) {
	t.Helper()
	next := numbers(3)
	lost := func(after int) (*disk.Disk, api.Errno) {
		c := copied(t, d)
		work := ready(c)
		c.Fail(after)
		return c, work()
	}
	for after := range 1000 {
		c, e := lost(after)
		if e == api.OK {
			return
		}
		if e != api.ErrPower {
			t.Fatalf("behind %d steps: %d", after, e)
		}
		for _, keep := range choices(c, next) {
			c, _ := lost(after)
			c.Restart(keep...)
			visit(c)
		}
	}
	t.Fatal("the work has no end")
}

func opening(d *disk.Disk) func() api.Errno {
	return func() api.Errno {
		j, e := Open(d)
		if (j == nil) != (e != api.OK) {
			return -1
		}
		return e
	}
}

// committing is a commit of a journal that is opened with power.
func committing(t *testing.T, list []api.Write) func(*disk.Disk) func() api.Errno {
	return func(d *disk.Disk) func() api.Errno {
		j := opened(t, d)
		return func() api.Errno { return j.Commit(list...) }
	}
}

// allOrNone sees that behind each loss in a commit, and each one in the Open behind that, all of it is written or none; visit gets what is left.
func allOrNone(t *testing.T, d *disk.Disk, deep bool, list []api.Write, visit func(*disk.Disk)) {
	t.Helper()
	opened(t, d)
	before := held(all(t, d))
	whole := held(over(all(t, d), list...))
	kinds := map[bool]int{}
	losses(t, d, committing(t, list), func(c *disk.Disk) {
		t.Helper()
		look := looked(t, c)
		if !same(held(look), before) && !same(held(look), whole) {
			t.Fatal("behind a loss in Commit: neither all nor none")
		}
		kinds[same(held(look), whole)]++
		want := butHead(look)
		if deep {
			losses(t, c, opening, func(c *disk.Disk) {
				t.Helper()
				if !same(butHead(looked(t, c)), want) {
					t.Fatal("behind a loss in Open: something else")
				}
				opened(t, c)
				if !same(butHead(all(t, c)), want) {
					t.Fatal("behind a loss in Open, and Open: something else")
				}
			})
		}
		told(t, c, opened(t, c))
		if !same(butHead(all(t, c)), want) {
			t.Fatal("Open is not what Look says")
		}
		lasts(t, c)
		if visit != nil {
			visit(c)
		}
	})
	if kinds[true] == 0 || kinds[false] == 0 {
		t.Fatalf("all %d times, none %d times", kinds[true], kinds[false])
	}
}

// P16.2, P16.3: whatever lasts, and wherever the power goes, in Commit, in Open, and in the Open behind.
func TestLoss(t *testing.T) {
	for _, h := range []api.Head{head(0, 1), head(36, 77), head(39, 1<<30-1)} {
		for count := 1; count <= 3; count++ {
			allOrNone(t, ready(t, 64, h), true, some(64, count, 3), nil)
		}
	}
	for _, count := range []int{4, 5, 19, 20} {
		for _, at := range []int{0, 20, 30} {
			allOrNone(t, ready(t, 64, head(at, 3)), false, some(64, count, 3), nil)
		}
	}
	allOrNone(t, ready(t, 480, head(0, 1)), false, some(480, 2, 400), nil)
}

// P16.3: a commit behind a loss, and another loss in that one, with the same and with other counts.
func TestLossBehindLoss(t *testing.T) {
	for _, counts := range [][2]int{{1, 1}, {2, 1}, {1, 2}} {
		first, second := some(64, counts[0], 3), some(64, counts[1], 4)
		allOrNone(t, ready(t, 64, head(37, 9)), false, first, func(c *disk.Disk) {
			t.Helper()
			allOrNone(t, c, false, second, nil)
		})
	}
	for _, counts := range [][2]int{{20, 20}, {20, 1}, {2, 20}, {18, 18}} {
		d := ready(t, 64, head(37, 9))
		j := opened(t, d)
		for i := range 5 {
			commits(t, j, api.OK, some(64, counts[0], i)...)
			commits(t, j, api.OK, some(64, counts[1], i+3)...)
		}
		allOrNone(t, d, false, some(64, counts[0], 9), nil)
		commits(t, opened(t, d), api.OK, some(64, counts[0], 9)...)
		allOrNone(t, d, false, some(64, counts[1], 11), nil)
	}
}

// openLosses sees that behind each loss in Open what the log said is done, and that a commit goes on from there.
func openLosses(t *testing.T, d *disk.Disk, done []api.Write) {
	t.Helper()
	settle(t, d)
	want := butHead(over(all(t, d), done...))
	losses(t, d, opening, func(c *disk.Disk) {
		t.Helper()
		if !same(butHead(looked(t, c)), want) {
			t.Fatal("behind a loss in Open: something else")
		}
		j := opened(t, c)
		if !same(butHead(all(t, c)), want) {
			t.Fatal("behind a loss in Open, and Open: something else")
		}
		next := held(over(all(t, c), some(64, 20, 3)...))
		commits(t, j, api.OK, some(64, 20, 3)...)
		if !same(held(looked(t, c)), next) {
			t.Fatal("behind a loss in Open, and a commit: something else")
		}
	})
}

// P16.1, P16.3: a power that goes in Open, when the log says of more than one transaction.
func TestLossInOpen(t *testing.T) {
	next := numbers(5)
	for _, counts := range [][]int{{1}, {2, 1}, {1, 1, 2}, {3, 3, 3, 3}, {20, 16}, {18, 18}, slices.Repeat([]int{1}, 13)} {
		for _, at := range []int{0, 39} {
			d := ready(t, 64, head(at, 5))
			done, _ := logs(t, d, head(at, 5), counts, next)
			openLosses(t, d, done)
		}
	}
}

// P16.1: a log that is so full that its last transaction lies in the first one's blocks, and its next one will.
func TestLossInOpenOfAFullLog(t *testing.T) {
	for _, at := range []int{0, 25, 39} {
		h := head(at, 5)
		first, second := some(64, 20, 3), some(64, 20, 9)
		// Of what the first one writes the second one leaves the block of first[3] alone: its place in the log is the next head's.
		first[2].Data = lastOf(t, 6, 20)
		laid := transaction(t, h, first...)
		for i := range 3 {
			second[17+i].Data = laid[i].Data
		}
		d := ready(t, 64, h)
		lay(t, d, laid...)
		lay(t, d, transaction(t, behind(h, 20), second...)...)
		done := slices.Concat(first, second)
		sees(t, copied(t, d), done, head((at+4)%40, 7))
		openLosses(t, d, done)
	}
}

func firstOf(t *testing.T, seq int, to ...int) []byte {
	t.Helper()
	b, e := log.Begin(api.Descriptor{Seq: seq, To: to})
	if e != api.OK {
		t.Fatalf("Begin: %d", e)
	}
	return b
}

func lastOf(t *testing.T, seq, count int) []byte {
	t.Helper()
	b, e := log.End(seq, count)
	if e != api.OK {
		t.Fatalf("End: %d", e)
	}
	return b
}

// P16.3: blocks of a commit that look like a transaction that is to come, and lie just where it will begin.
func TestBlocksLikeATransaction(t *testing.T) {
	for i := range 14 {
		d := ready(t, 64, head(31, 40))
		j := opened(t, d)
		list := some(64, 20, 0)
		list[i].Data, list[i+2].Data = firstOf(t, 43, 63), lastOf(t, 43, 1)
		for _, list := range [][]api.Write{list, some(64, 8, 2)} {
			commits(t, j, api.OK, list...)
		}
		last := some(64, 7+i, 4)
		allOrNone(t, d, false, last, nil)
		j = opened(t, d)
		want := held(over(all(t, d), last...))
		commits(t, j, api.OK, last...)
		if j.Head() != head((31+1+i)%40, 43) {
			t.Fatalf("Head: %v", j.Head())
		}
		if !same(held(looked(t, d)), want) {
			t.Fatal("what was written was taken for a transaction")
		}
		allOrNone(t, d, false, some(64, 3, 7), nil)
	}
}

// P16.3: blocks of a commit that look like a last block, and lie just where the one of a later commit will.
func TestBlocksLikeALastBlock(t *testing.T) {
	for count := 1; count < 20; count++ {
		d := ready(t, 64, head(31, 40))
		j := opened(t, d)
		list := some(64, 20, 0)
		for k := 1; k < 20; k++ {
			list[k].Data = lastOf(t, 43, k)
		}
		for _, list := range [][]api.Write{list, some(64, 8, 2), some(64, 6, 3)} {
			commits(t, j, api.OK, list...)
		}
		if j.Head() != head(31, 43) {
			t.Fatalf("Head: %v", j.Head())
		}
		allOrNone(t, d, false, some(64, count, 5), nil)
	}
}

// P16.3: first blocks that lay in the log at first; a commit's blocks look like their last ones.
func TestFirstBlocksLeft(t *testing.T) {
	for left := 1; left <= 5; left++ {
		for count := left; count <= 6; count++ {
			d := ready(t, 64, head(38, 6))
			for seq := 6; seq < 12; seq++ {
				for n := range 40 {
					if (n+2)%(seq-2) == 0 {
						lay(t, d, api.Write{At: 19 + n, Data: firstOf(t, seq, places(64)[7:7+left]...)})
					}
				}
			}
			lay(t, d, api.Write{At: 19 + 38, Data: firstOf(t, 6, places(64)[7:7+left]...)})
			settle(t, d)
			list := some(64, count, 3)
			if count > left {
				list[left].Data = lastOf(t, 6, left)
			}
			allOrNone(t, d, count < 4, list, nil)
		}
	}
}

// P16.3: first blocks that lie where the next transaction will begin; its own blocks look like their last ones.
func TestFirstBlocksAhead(t *testing.T) {
	for left := 1; left <= 2; left++ {
		d := ready(t, 64, head(38, 6))
		lay(t, d, api.Write{At: 19 + 2, Data: firstOf(t, 7, places(64)[7:7+left]...)})
		settle(t, d)
		list := some(64, left+1, 3)
		list[left].Data = lastOf(t, 7, left)
		allOrNone(t, d, false, some(64, 2, 9), func(c *disk.Disk) {
			t.Helper()
			allOrNone(t, c, false, list, nil)
		})
	}
}

// likeALog is a block that looks like one of the log's of a number near this one.
func likeALog(t *testing.T, seq int, next func(int) int) []byte {
	t.Helper()
	at := places(64)
	count, from := 1+next(4), next(15)
	if next(2) == 0 {
		return lastOf(t, seq+next(6), count)
	}
	return firstOf(t, seq+next(6), at[from:from+count]...)
}

// someKeep is any choice of what lasts.
func someKeep(next func(int) int) []int {
	keep := make([]int, 64)
	for n := range keep {
		keep[n] = next(3) - next(2)
	}
	return keep
}

// reopened opens a disk while the power goes again and again.
func reopened(t *testing.T, d *disk.Disk, next func(int) int) *Journal {
	t.Helper()
	for next(3) > 0 {
		d.Fail(next(12))
		if j, e := Open(d); e == api.OK {
			d.Fail(-1)
			return j
		} else if e != api.ErrPower || j != nil {
			t.Fatalf("Open: %v %d", j, e)
		}
		d.Restart(someKeep(next)...)
	}
	return opened(t, d)
}

// P16.3: long rows of commits, with losses anywhere, and blocks that look like a log's.
func TestHistory(t *testing.T) {
	for seed := range 120 {
		next := numbers(uint32(seed))
		h := head(next(40), 1+next(3))
		d := ready(t, 64, h)
		for n := 19; n < 59; n++ {
			switch next(3) {
			case 0:
				lay(t, d, api.Write{At: n, Data: firstOf(t, h.Seq+next(9), places(64)[5:6+next(3)]...)})
			case 1:
				lay(t, d, api.Write{At: n, Data: filled(n)})
			}
		}
		if seed%2 == 0 {
			lay(t, d, api.Write{At: 19 + h.At, Data: firstOf(t, h.Seq, places(64)[5:6+next(3)]...)})
		}
		settle(t, d)
		j := reopened(t, d, next)
		want := held(all(t, d))
		for i := range 150 {
			count := 1 + next(1+next(20))
			list := some(64, count, next(22))
			for k := range list {
				list[k].Data = filled(1000*i + 3*k)
				if next(3) == 0 {
					list[k].Data = likeALog(t, j.Head().Seq, next)
				}
			}
			whole := held(over(all(t, d), list...))
			if next(2) == 0 {
				d.Fail(next(2*count + 12))
			}
			seq := j.Head().Seq
			e := j.Commit(list...)
			d.Fail(-1)
			if e == api.OK {
				want = whole
			} else if e != api.ErrPower {
				t.Fatalf("Commit: %d", e)
			}
			if e != api.OK || next(4) == 0 {
				d.Restart(someKeep(next)...)
				look := looked(t, d)
				j = reopened(t, d, next)
				if !same(butHead(all(t, d)), butHead(look)) {
					t.Fatalf("row %d, commit %d: Open is not what Look says", seed, i)
				}
			}
			got := held(all(t, d))
			if e == api.ErrPower && same(got, whole) {
				want = whole
			}
			if !same(got, want) || !same(held(looked(t, d)), want) || j.Head().Seq < seq || j.Head().Seq > seq+1 {
				t.Fatalf("row %d, commit %d, %d: something else; %v", seed, i, e, j.Head())
			}
			told(t, d, j)
		}
	}
}

// P16.1: Head is never ahead of nothing: what lies on the disk behind a loss is it, or an earlier one.
func TestHeadBehindALoss(t *testing.T) {
	for after := range 30 {
		d := ready(t, 64, head(5, 5))
		j := opened(t, d)
		d.Fail(after)
		e := j.Commit(some(64, 3, 3)...)
		if h := j.Head(); h != head(5, 5) && h != head(10, 6) {
			t.Fatalf("Head: %v", h)
		}
		d.Restart(slices.Repeat([]int{9}, 64)...)
		told(t, d, j)
		if h := opened(t, d).Head(); e == api.OK && h != head(10, 6) || h.Seq < j.Head().Seq {
			t.Fatalf("Head: %v, then %v", j.Head(), h)
		}
	}
}

// R1: a nil Journal answers ErrArg to all arguments; one that Open did not make does not panic either.
func TestNilJournal(t *testing.T) {
	var j *Journal
	for range 2 {
		if h := j.Head(); h != (api.Head{}) {
			t.Errorf("Head: %v", h)
		}
		commits(t, j, api.ErrArg)
		commits(t, j, api.ErrArg, some(64, 1, 0)...)
		commits(t, j, api.ErrArg, make([]api.Write, 21)...)
		for _, n := range []int{math.MinInt, -1, 0, 5, math.MaxInt} {
			if b, e := j.Read(n); e != api.ErrArg || b != nil {
				t.Errorf("Read(%d): %v %d", n, b, e)
			}
		}
	}
	z := &Journal{}
	commits(t, z, api.ErrArg, some(64, 1, 0)...)
	if b, e := z.Read(0); e != api.ErrArg || b != nil || z.Head() != (api.Head{}) {
		t.Errorf("Read: %v %d", b, e)
	}
}

// R4: what is handed in is neither changed nor kept, spare room included.
func TestCommitMemory(t *testing.T) {
	d := ready(t, 64, head(5, 5))
	j := opened(t, d)
	list := append(some(64, 20, 3), api.Write{At: 7, Data: []byte{7}})[:19]
	for i := range list {
		list[i].Data = append(list[i].Data, 1, 2, 3)[:64]
	}
	want := held(over(all(t, d), some(64, 19, 3)...))
	commits(t, j, api.OK, list...)
	for i, w := range some(64, 20, 3)[:19] {
		if list[i].At != w.At || !bytes.Equal(list[i].Data, w.Data) || !bytes.Equal(list[i].Data[:67][64:], []byte{1, 2, 3}) {
			t.Fatalf("write %d has changed: %v", i, list[i])
		}
	}
	if room := list[:21]; room[20].At != 7 || !bytes.Equal(room[19].Data, some(64, 20, 3)[19].Data) {
		t.Fatalf("spare room has changed: %v", room[19:])
	}
	for _, w := range list {
		clear(w.Data[:67])
	}
	clear(list)
	if !same(held(all(t, d)), want) || !same(held(looked(t, d)), want) {
		t.Fatal("what was handed in is kept")
	}
	j = opened(t, d)
	if !same(held(all(t, d)), want) {
		t.Fatal("what was handed in is kept")
	}
	b, _ := j.Read(63)
	c, _ := j.Read(63)
	clear(b[:cap(b)])
	if again, _ := j.Read(63); !bytes.Equal(again, c) || bytes.Equal(c, make([]byte, 64)) {
		t.Fatal("Read shares memory")
	}
}

// R4: what Look answers is new memory, each block of it, spare room included.
func TestLookMemory(t *testing.T) {
	d := ready(t, 64, head(38, 5))
	list := some(64, 4, 9)
	lay(t, d, transaction(t, head(38, 5), list...)...)
	lay(t, d, transaction(t, behind(head(38, 5), 4), list[1:3]...)...)
	want := over(all(t, d), list...)
	first := looked(t, d)
	second := looked(t, d)
	for n, b := range first {
		room := b[:cap(b)]
		for i := range room {
			room[i] ^= 255
		}
		first[n] = nil
		for k := n + 1; k < len(first); k++ {
			if !bytes.Equal(first[k], want[k]) {
				t.Fatalf("blocks %d and %d share memory", n, k)
			}
		}
	}
	clear(first[:cap(first)])
	if !same(second, want) || !same(looked(t, d), want) {
		t.Fatal("Look shares memory")
	}
	opened(t, d)
	if !same(held(all(t, d)), held(want)) {
		t.Fatal("Look shares memory")
	}
}

// P2, R5: the same calls answer the same, and one journal's do not hang on another's.
func TestSameInSameOut(t *testing.T) {
	var disks []*disk.Disk
	var list []*Journal
	for range 3 {
		d := ready(t, 64, head(7, 7))
		disks, list = append(disks, d), append(list, opened(t, d))
	}
	other := opened(t, ready(t, 64, head(1, 1)))
	for i := range 30 {
		for _, j := range list {
			commits(t, j, api.OK, some(64, 1+i%20, i)...)
			commits(t, other, api.OK, some(64, 1+i%7, 2*i)...)
		}
	}
	for i, d := range disks {
		if list[i].Head() != list[0].Head() || !same(all(t, d), all(t, disks[0])) {
			t.Fatalf("disk %d is another", i)
		}
	}
}
