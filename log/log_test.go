package log

import (
	"bytes"
	"math"
	"slices"
	"testing"

	"drydock/api"
	"drydock/spin"
)

// sealed is a block of these bytes, 0 behind them, and the check sum.
func sealed(first ...byte) []byte {
	b := make([]byte, 64)
	copy(b[:60], first)
	sum := spin.Sum(b[:60])
	b[60], b[61], b[62], b[63] = byte(sum), byte(sum>>8), byte(sum>>16), byte(sum>>24)
	return b
}

// firstBlock is laid byte by byte, by the document's words; what does not fit its bytes is cut off.
func firstBlock(d api.Descriptor) []byte {
	b := []byte{'B', 'E', 'G', 'N', byte(d.Seq), byte(d.Seq >> 8), byte(d.Seq >> 16), byte(d.Seq >> 24), byte(len(d.To)), 0}
	for _, n := range d.To {
		b = append(b, byte(n), byte(n>>8))
	}
	return sealed(b...)
}

func lastBlock(seq, count int) []byte {
	return sealed('D', 'O', 'N', 'E', byte(seq), byte(seq>>8), byte(seq>>16), byte(seq>>24), byte(count))
}

func soundSeq(n int) bool   { return n >= 1 && n <= 1073741824 }
func soundCount(n int) bool { return n >= 1 && n <= 20 }
func soundTo(n int) bool    { return n == 0 || n >= 2 && n <= 18 || n >= 59 && n <= 479 }

// soundList says it of each two of the numbers.
func soundList(to []int) bool {
	if !soundCount(len(to)) {
		return false
	}
	for i := range to {
		for k := range to {
			if !soundTo(to[i]) || i != k && to[i] == to[k] {
				return false
			}
		}
	}
	return true
}

func numberAt(b []byte, at, size int) int {
	n := 0
	for i := size - 1; i >= 0; i-- {
		n = 256*n + int(b[at+i])
	}
	return n
}

func isSealed(b []byte) bool {
	return len(b) == 64 && bytes.Equal(b, sealed(b[:60]...))
}

// readFirst says of a block, field by field and byte by byte, what it is.
func readFirst(b []byte) (api.Descriptor, bool) {
	if !isSealed(b) || string(b[:4]) != "BEGN" || b[9] != 0 {
		return api.Descriptor{}, false
	}
	d := api.Descriptor{Seq: numberAt(b, 4, 4)}
	count := int(b[8])
	for at := 10; at < 60; at += 2 {
		n := numberAt(b, at, 2)
		if len(d.To) < count {
			d.To = append(d.To, n)
		} else if n != 0 {
			return api.Descriptor{}, false
		}
	}
	if len(d.To) != count || !soundSeq(d.Seq) || !soundList(d.To) {
		return api.Descriptor{}, false
	}
	return d, true
}

func readLast(b []byte) (seq, count int, ok bool) {
	if !isSealed(b) || string(b[:4]) != "DONE" || !bytes.Equal(b[9:60], make([]byte, 51)) {
		return 0, 0, false
	}
	seq, count = numberAt(b, 4, 4), int(b[8])
	if !soundSeq(seq) || !soundCount(count) {
		return 0, 0, false
	}
	return seq, count, true
}

// foundIn goes through the ring by steps of one block, by the document's words.
func foundIn(blocks [][]byte, h api.Head) ([][]api.Write, api.Head, api.Errno) {
	if len(blocks) != 40 || h.At < 0 || h.At > 39 || !soundSeq(h.Seq) {
		return nil, api.Head{}, api.ErrForm
	}
	for _, b := range blocks {
		if len(b) != 64 {
			return nil, api.Head{}, api.ErrForm
		}
	}
	var found [][]api.Write
	for h.Seq <= 1073741823 {
		d, ok := readFirst(blocks[h.At])
		if !ok || d.Seq != h.Seq {
			break
		}
		at := h.At
		var list []api.Write
		for _, to := range d.To {
			if at++; at == 40 {
				at = 0
			}
			list = append(list, api.Write{At: to, Data: blocks[at]})
		}
		if at++; at == 40 {
			at = 0
		}
		seq, count, ok := readLast(blocks[at])
		if !ok || seq != h.Seq || count != len(d.To) {
			break
		}
		if at++; at == 40 {
			at = 0
		}
		found = append(found, list)
		h = api.Head{At: at, Seq: h.Seq + 1}
	}
	return found, h, api.OK
}

func sameWrites(a, b []api.Write) bool {
	return slices.EqualFunc(a, b, func(x, y api.Write) bool { return x.At == y.At && bytes.Equal(x.Data, y.Data) })
}

// numbers is the same row of numbers for the same seed.
func numbers(seed uint32) func(n int) int {
	return func(n int) int {
		seed = seed*1664525 + 1013904223
		return int(seed>>8) % n
	}
}

// ints are numbers round all ends of what is sound, those that look sound when they are cut to fewer bytes, and the ends of what an int is.
func ints() []int {
	return []int{
		math.MinInt, math.MinInt + 1, math.MinInt32, -1 << 16, -256, -255, -1, 0, 1, 2, 3, 17, 18, 19, 20, 21, 22, 58, 59, 60, 61,
		254, 255, 256, 257, 276, 277, 320, 478, 479, 480, 481, 511, 512, 65535, 65536, 65537, 65536 + 20, 65536 + 64,
		1<<24 - 1, 1 << 24, 1<<24 + 1, 1<<30 - 2, 1<<30 - 1, 1 << 30, 1<<30 + 1, 1<<31 - 1, 1 << 31, 1<<31 + 1, math.MaxUint32, 1 << 32, 1<<32 + 1, 1<<32 + 20, 1<<32 + 64, 1 << 62, math.MaxInt - 1, math.MaxInt,
	}
}

// upTo are so many numbers that a descriptor may have, from one of a row on.
func upTo(count, from int) []int {
	var to []int
	for i := range count {
		to = append(to, placeOf(from+i))
	}
	return to
}

// placeOf goes through all places that are sound: 0, 2 to 18, 59 to 479.
func placeOf(i int) int {
	switch i %= 1 + 17 + 421; {
	case i == 0:
		return 0
	case i <= 17:
		return 1 + i
	}
	return 59 + i - 18
}

func someDescriptor() api.Descriptor {
	return api.Descriptor{Seq: 0x12345678, To: []int{479, 0, 2, 18, 59, 0x123}}
}

func begins(t *testing.T, d api.Descriptor, want []byte) {
	t.Helper()
	if b, e := Begin(d); e != api.OK || !bytes.Equal(b, want) {
		t.Fatalf("Begin(%v): %v %d, not %v", d, b, e, want)
	}
	if got, e := Begins(want); e != api.OK || got.Seq != d.Seq || !slices.Equal(got.To, d.To) {
		t.Fatalf("Begins(%v): %v %d, not %v", want, got, e, d)
	}
}

// beginsNot sees that the error stands alone, as those below it do.
func beginsNot(t *testing.T, d api.Descriptor) {
	t.Helper()
	if b, e := Begin(d); e != api.ErrForm || b != nil {
		t.Fatalf("Begin(%v): %v %d", d, b, e)
	}
}

func ends(t *testing.T, seq, count int, want []byte) {
	t.Helper()
	if b, e := End(seq, count); e != api.OK || !bytes.Equal(b, want) {
		t.Fatalf("End(%d, %d): %v %d, not %v", seq, count, b, e, want)
	}
	if s, c, e := Ends(want); e != api.OK || s != seq || c != count {
		t.Fatalf("Ends(%v): %d %d %d, not %d %d", want, s, c, e, seq, count)
	}
}

func endsNot(t *testing.T, seq, count int) {
	t.Helper()
	if b, e := End(seq, count); e != api.ErrForm || b != nil {
		t.Fatalf("End(%d, %d): %v %d", seq, count, b, e)
	}
}

// readsAs holds both readers against the words, whatever the block is.
func readsAs(t *testing.T, b []byte) {
	t.Helper()
	kept := bytes.Clone(b)
	want, e := api.Descriptor{}, api.ErrForm
	if d, ok := readFirst(b); ok {
		want, e = d, api.OK
	}
	if d, got := Begins(b); got != e || d.Seq != want.Seq || !slices.Equal(d.To, want.To) {
		t.Fatalf("Begins(%v): %v %d, not %v %d", b, d, got, want, e)
	}
	e = api.ErrForm
	seq, count, ok := readLast(b)
	if ok {
		e = api.OK
	}
	if s, c, got := Ends(b); got != e || s != seq || c != count {
		t.Fatalf("Ends(%v): %d %d %d, not %d %d %d", b, s, c, got, seq, count, e)
	}
	if !bytes.Equal(b, kept) {
		t.Fatalf("%v became %v", kept, b)
	}
}

// P15.1: blocks written out, check sums too.
func TestBlocks(t *testing.T) {
	b := make([]byte, 64)
	copy(b, []byte{'B', 'E', 'G', 'N', 0x78, 0x56, 0x34, 0x12, 6, 0, 223, 1, 0, 0, 2, 0, 18, 0, 59, 0, 35, 1})
	copy(b[60:], []byte{166, 56, 63, 51})
	begins(t, someDescriptor(), b)
	b = make([]byte, 64)
	copy(b, []byte{'D', 'O', 'N', 'E', 0x78, 0x56, 0x34, 0x12, 6})
	copy(b[60:], []byte{201, 178, 48, 211})
	ends(t, 0x12345678, 6, b)
}

// P15.1: Seq at its ends and beyond them, whatever the rest is.
func TestNumbers(t *testing.T) {
	for _, seq := range ints() {
		for _, to := range [][]int{{0}, {479}, upTo(20, 0), upTo(20, 419), {2, 18, 59}} {
			d := api.Descriptor{Seq: seq, To: to}
			if soundSeq(seq) {
				begins(t, d, firstBlock(d))
			} else {
				beginsNot(t, d)
			}
		}
		for _, count := range ints() {
			if soundSeq(seq) && soundCount(count) {
				ends(t, seq, count, lastBlock(seq, count))
			} else {
				endsNot(t, seq, count)
			}
		}
	}
	for bit := range 31 {
		for _, seq := range []int{1 << bit, 1<<30 - bit, 1<<bit | 1} {
			seq = min(seq, 1<<30)
			d := api.Descriptor{Seq: seq, To: upTo(1+bit%20, bit*13)}
			begins(t, d, firstBlock(d))
			ends(t, seq, 1+bit%20, lastBlock(seq, 1+bit%20))
		}
	}
}

// P15.1: as many numbers as may be, none, and more.
func TestCounts(t *testing.T) {
	beginsNot(t, api.Descriptor{})
	beginsNot(t, api.Descriptor{Seq: 1})
	beginsNot(t, api.Descriptor{Seq: 1, To: []int{}})
	for count := range 300 {
		for _, from := range []int{0, 18, 419} {
			d := api.Descriptor{Seq: 7 + count, To: upTo(count, from)}
			if soundCount(count) {
				begins(t, d, firstBlock(d))
			} else {
				beginsNot(t, d)
			}
		}
	}
	beginsNot(t, api.Descriptor{Seq: 1, To: make([]int, 1<<16+1)})
}

// P15.1: each number in each place: those of the log, and the head's, are none, and none is there twice.
func TestPlaces(t *testing.T) {
	for _, count := range []int{1, 2, 5, 20} {
		for place := range count {
			for _, n := range append(ints(), upTo(439, 0)...) {
				to := upTo(count, 430)
				to[place] = n
				d := api.Descriptor{Seq: 3, To: to}
				if soundList(to) {
					begins(t, d, firstBlock(d))
				} else {
					beginsNot(t, d)
				}
			}
		}
	}
	for n := range 1 << 16 {
		d := api.Descriptor{Seq: 3, To: []int{n}}
		if soundTo(n) {
			begins(t, d, firstBlock(d))
		} else {
			beginsNot(t, d)
			readsAs(t, firstBlock(d))
		}
	}
}

// P15.1: numbers that are the same, however far from each other.
func TestTwice(t *testing.T) {
	for i := range 20 {
		for k := range i {
			to := upTo(20, 5)
			to[i] = to[k]
			d := api.Descriptor{Seq: 1, To: to}
			beginsNot(t, d)
			readsAs(t, firstBlock(d))
			d.To = to[:i]
			begins(t, d, firstBlock(d))
		}
	}
}

// P15.1: a block of what is not sound is refused, though its check sum is right.
func TestBlocksOfWhatIsNotSound(t *testing.T) {
	for _, seq := range []int{0, 1, 1<<30 - 1, 1 << 30, 1<<30 + 1, math.MaxInt32, 1 << 31, math.MaxUint32} {
		for count := range 256 {
			readsAs(t, lastBlock(seq, count))
			b := firstBlock(api.Descriptor{Seq: seq, To: upTo(25, 0)})
			b[8] = byte(count)
			readsAs(t, sealed(b[:60]...))
			for place := min(count, 25); place < 25; place++ {
				b[10+2*place], b[11+2*place] = 0, 0
			}
			readsAs(t, sealed(b[:60]...))
			clear(b[10:60])
			readsAs(t, sealed(b[:60]...))
		}
	}
}

// P15.1: each byte counts, though the check sum is right; some others of them are sound, too.
func TestBlocksOfOtherBytes(t *testing.T) {
	for _, block := range [][]byte{
		firstBlock(someDescriptor()), firstBlock(api.Descriptor{Seq: 1, To: []int{0}}), firstBlock(api.Descriptor{Seq: 1 << 30, To: upTo(20, 2)}),
		lastBlock(0x12345678, 6), lastBlock(1, 1), lastBlock(1<<30, 20),
	} {
		for at := range 60 {
			for x := range 256 {
				b := bytes.Clone(block)
				b[at] = byte(x)
				readsAs(t, sealed(b[:60]...))
			}
		}
	}
}

// P15.1: no bit may be turned, those of the check sum neither.
func TestTurnedBits(t *testing.T) {
	for at := range 64 {
		for bit := range 8 {
			b := firstBlock(someDescriptor())
			b[at] ^= 1 << bit
			if d, e := Begins(b); e != api.ErrForm || d.Seq != 0 || d.To != nil {
				t.Fatalf("Begins(%v): %v %d", b, d, e)
			}
			b = lastBlock(0x12345678, 6)
			b[at] ^= 1 << bit
			if seq, count, e := Ends(b); e != api.ErrForm || seq != 0 || count != 0 {
				t.Fatalf("Ends(%v): %d %d %d", b, seq, count, e)
			}
		}
	}
}

// P15.1, R1: what is no block at all, and a block of the other kind.
func TestNoBlocks(t *testing.T) {
	list := [][]byte{nil, {}, {0}, make([]byte, 64), sealed(), bytes.Repeat([]byte{255}, 64), sealed(bytes.Repeat([]byte{255}, 60)...), sealed([]byte("BEGN")...), sealed([]byte("DONE")...)}
	for _, b := range [][]byte{firstBlock(someDescriptor()), lastBlock(0x12345678, 6)} {
		list = append(list, b[:1], b[:12], b[:60], b[:63], b[:63:63], append(bytes.Clone(b), 0), append(bytes.Clone(b), b...), append([]byte{0}, b...))
	}
	for _, b := range list {
		if d, e := Begins(b); e != api.ErrForm || d.Seq != 0 || d.To != nil {
			t.Errorf("Begins(%v): %v %d", b, d, e)
		}
		if seq, count, e := Ends(b); e != api.ErrForm || seq != 0 || count != 0 {
			t.Errorf("Ends(%v): %d %d %d", b, seq, count, e)
		}
	}
	readsAs(t, firstBlock(someDescriptor()))
	readsAs(t, lastBlock(0x12345678, 6))
}

// ringOf is a ring whose blocks are all others, none of them of a log.
func ringOf() [][]byte {
	blocks := make([][]byte, 40)
	for i := range blocks {
		blocks[i] = bytes.Repeat([]byte{byte(100 + i)}, 64)
	}
	return blocks
}

// put lays blocks into a ring from a place on, and answers the place behind them.
func put(ring [][]byte, at int, blocks ...[]byte) int {
	for _, b := range blocks {
		ring[at%40] = b
		at++
	}
	return at % 40
}

// whole lays a transaction of so many blocks, leaving those that it writes as they lie there.
func whole(ring [][]byte, at, seq, count int) int {
	put(ring, at, firstBlock(api.Descriptor{Seq: seq, To: upTo(count, seq%1000)}))
	return put(ring, at+1+count, lastBlock(seq, count))
}

// deep is the same blocks in other memory.
func deep(blocks [][]byte) [][]byte {
	var list [][]byte
	for _, b := range blocks {
		list = append(list, bytes.Clone(b))
	}
	return list
}

func finds(t *testing.T, ring [][]byte, h api.Head) ([][]api.Write, api.Head) {
	t.Helper()
	kept := deep(ring)
	found, behind, e := Find(ring, h)
	want, next, we := foundIn(kept, h)
	if e != we || behind != next || !slices.EqualFunc(found, want, sameWrites) {
		t.Fatalf("Find at %v: %v %v %d, not %v %v %d", h, found, behind, e, want, next, we)
	}
	if e != api.OK && found != nil {
		t.Fatalf("Find at %v: %v beside %d", h, found, e)
	}
	if !slices.EqualFunc(ring, kept, bytes.Equal) {
		t.Fatalf("Find at %v has changed the ring", h)
	}
	return found, behind
}

// P15.2: two transactions written out, round the ring's end.
func TestFind(t *testing.T) {
	ring := ringOf()
	put(ring, 37, firstBlock(api.Descriptor{Seq: 9, To: []int{100, 0}}), ring[38], ring[39], lastBlock(9, 2))
	put(ring, 1, firstBlock(api.Descriptor{Seq: 10, To: []int{479}}), ring[2], lastBlock(10, 1))
	found, h, e := Find(ring, api.Head{At: 37, Seq: 9})
	want := [][]api.Write{
		{{At: 100, Data: bytes.Repeat([]byte{138}, 64)}, {At: 0, Data: bytes.Repeat([]byte{139}, 64)}},
		{{At: 479, Data: bytes.Repeat([]byte{102}, 64)}},
	}
	if e != api.OK || h != (api.Head{At: 4, Seq: 11}) || !slices.EqualFunc(found, want, sameWrites) {
		t.Errorf("%v %v %d", found, h, e)
	}
	for _, c := range []struct {
		at, seq, count int
		behind         api.Head
	}{
		{1, 10, 1, api.Head{At: 4, Seq: 11}}, {37, 10, 0, api.Head{At: 37, Seq: 10}}, {37, 8, 0, api.Head{At: 37, Seq: 8}},
		{38, 9, 0, api.Head{At: 38, Seq: 9}}, {4, 11, 0, api.Head{At: 4, Seq: 11}}, {1, 9, 0, api.Head{At: 1, Seq: 9}},
	} {
		found, h, e := Find(ring, api.Head{At: c.at, Seq: c.seq})
		if e != api.OK || h != c.behind || len(found) != c.count {
			t.Errorf("at %d, %d: %v %v %d", c.at, c.seq, found, h, e)
		}
	}
}

// P15.2: a ring that is none, and heads that are not sound.
func TestFindForm(t *testing.T) {
	ring := ringOf()
	whole(ring, 0, 1, 1)
	good := api.Head{At: 0, Seq: 1}
	finds(t, nil, good)
	finds(t, [][]byte{}, good)
	for n := range 45 {
		list := slices.Repeat(ring, 2)[:n]
		finds(t, list, good)
		if _, _, e := Find(list, good); e == api.OK != (n == 40) {
			t.Errorf("%d blocks: %d", n, e)
		}
	}
	for i := range ring {
		for _, b := range [][]byte{nil, {}, ring[i][:63], ring[i][:1], append(bytes.Clone(ring[i]), 0), slices.Repeat(ring[i], 2)} {
			list := slices.Clone(ring)
			list[i] = b
			finds(t, list, good)
			if _, _, e := Find(list, good); e != api.ErrForm {
				t.Errorf("block %d of %d bytes: %d", i, len(b), e)
			}
		}
	}
	for _, at := range append(ints(), 37, 38, 39, 40, 41) {
		for _, seq := range ints() {
			finds(t, ring, api.Head{At: at, Seq: seq})
		}
	}
	finds(t, ring, api.Head{})
}

// P15.2: one transaction of each count in each place, sought from each place and by numbers near its own.
func TestFindOne(t *testing.T) {
	for at := range 40 {
		for count := 1; count <= 20; count++ {
			ring := ringOf()
			behind := whole(ring, at, 100, count)
			for from := range 40 {
				finds(t, ring, api.Head{At: from, Seq: 100})
			}
			for seq := 98; seq < 103; seq++ {
				finds(t, ring, api.Head{At: at, Seq: seq})
			}
			found, h, _ := Find(ring, api.Head{At: at, Seq: 100})
			if len(found) != 1 || len(found[0]) != count || h != (api.Head{At: behind, Seq: 101}) {
				t.Fatalf("at %d, %d blocks: %v %v", at, count, found, h)
			}
		}
	}
}

// P15.2: a last block of another number or count, or none, or none of these at its place.
func TestFindNotWhole(t *testing.T) {
	for at := range 40 {
		for _, count := range []int{1, 2, 7, 20} {
			for _, last := range [][]byte{
				lastBlock(99, count), lastBlock(101, count), lastBlock(100+1<<24, count), lastBlock(100, count+1), lastBlock(100, count-1), lastBlock(100, 0),
				make([]byte, 64), firstBlock(api.Descriptor{Seq: 100, To: upTo(count, 0)}), sealed([]byte("DONE")...), lastBlock(100, count)[:63], append(lastBlock(100, count), 0),
			} {
				ring := ringOf()
				whole(ring, at, 100, count)
				put(ring, at+count+1, last)
				found, h := finds(t, ring, api.Head{At: at, Seq: 100})
				if len(found) != 0 || len(last) == 64 && h != (api.Head{At: at, Seq: 100}) {
					t.Fatalf("at %d, %d blocks, %v: %v %v", at, count, last, found, h)
				}
			}
			for off := range 40 {
				ring := ringOf()
				put(ring, at, firstBlock(api.Descriptor{Seq: 100, To: upTo(count, 0)}))
				if off != 0 {
					put(ring, at+off, lastBlock(100, count))
				}
				if found, _ := finds(t, ring, api.Head{At: at, Seq: 100}); len(found) == 1 != (off == count+1) {
					t.Fatalf("at %d, %d blocks, last %d behind: %v", at, count, off, found)
				}
			}
		}
	}
}

// P15.2: bits turned in a transaction's first and last block; those that it writes may be anything.
func TestFindTurned(t *testing.T) {
	for place := range 5 {
		for at := range 64 {
			for bit := range 8 {
				ring := ringOf()
				whole(ring, 38, 5, 3)
				b := bytes.Clone(ring[(38+place)%40])
				b[at] ^= 1 << bit
				put(ring, 38+place, b)
				if found, _ := finds(t, ring, api.Head{At: 38, Seq: 5}); len(found) == 1 != (place >= 1 && place <= 3) {
					t.Fatalf("block %d, byte %d, bit %d: %v", place, at, bit, found)
				}
			}
		}
	}
}

// P15.2: numbers at their end: none of 2^30 is found, and the head behind may have it.
func TestFindLastNumber(t *testing.T) {
	for first := 1<<30 - 4; first <= 1<<30; first++ {
		ring := ringOf()
		at := 30
		for seq := first; seq <= 1<<30; seq++ {
			at = whole(ring, at, seq, 1+seq%4)
		}
		found, h := finds(t, ring, api.Head{At: 30, Seq: first})
		if len(found) != 1<<30-first || h.Seq != 1<<30 {
			t.Errorf("from %d on: %v %v", first, found, h)
		}
		finds(t, ring, api.Head{At: 30, Seq: 1})
	}
}

// P15.2: one behind the other, round the ring, and as many as it holds; a gap of one block, or of one number, ends them.
func TestFindMany(t *testing.T) {
	for at := range 40 {
		for _, counts := range [][]int{slices.Repeat([]int{1}, 13), {20, 16}, {18, 18}, {20, 1, 1, 1, 1, 1, 1}, {2, 2, 2, 2, 2, 2, 2, 2, 2, 2}, {1, 20, 13}} {
			for gap := range len(counts) + 1 {
				ring, odd := ringOf(), ringOf()
				next, other := at, at
				for i, count := range counts {
					next = whole(ring, next, 50+i, count)
					seq := 50 + i
					if i >= gap {
						seq++
					}
					other = whole(odd, other, seq, count)
				}
				found, h := finds(t, ring, api.Head{At: at, Seq: 50})
				if len(found) != len(counts) || h != (api.Head{At: next, Seq: 50 + len(counts)}) {
					t.Fatalf("at %d, %v: %d, %v", at, counts, len(found), h)
				}
				if found, h := finds(t, odd, api.Head{At: at, Seq: 50}); len(found) != gap || h.Seq != 50+gap {
					t.Fatalf("at %d, %v, %d missing: %d, %v", at, counts, gap, len(found), h)
				}
				put(ring, next+39-gap, make([]byte, 64))
				finds(t, ring, api.Head{At: at, Seq: 50})
			}
		}
	}
}

// P15.2: what a transaction writes may look like a log's blocks, and one that goes on into another's blocks stands there, too.
func TestFindWithin(t *testing.T) {
	ring := ringOf()
	at := put(ring, 35, firstBlock(api.Descriptor{Seq: 1, To: upTo(4, 0)}), firstBlock(api.Descriptor{Seq: 1, To: upTo(1, 0)}), ring[37], lastBlock(1, 1), lastBlock(1, 3), lastBlock(1, 4))
	whole(ring, at, 2, 3)
	for from := range 40 {
		for seq := 1; seq < 4; seq++ {
			finds(t, ring, api.Head{At: from, Seq: seq})
		}
	}
	if found, h := finds(t, ring, api.Head{At: 35, Seq: 1}); len(found) != 2 || h != (api.Head{At: 6, Seq: 3}) {
		t.Errorf("%d, %v", len(found), h)
	}
	ring = ringOf()
	ring[3] = lastBlock(3, 2)
	whole(ring, 0, 1, 18)
	whole(ring, 20, 2, 18)
	if found, h := finds(t, ring, api.Head{At: 0, Seq: 1}); len(found) != 2 || h != (api.Head{At: 0, Seq: 3}) {
		t.Errorf("%d, %v", len(found), h)
	}
	ring = ringOf()
	ring[3] = lastBlock(2, 20)
	whole(ring, 0, 1, 20)
	whole(ring, 22, 2, 20)
	if found, h := finds(t, ring, api.Head{At: 0, Seq: 1}); len(found) != 2 || h != (api.Head{At: 4, Seq: 3}) {
		t.Errorf("%d, %v", len(found), h)
	}
}

// P15.2: rings of blocks that are mostly of logs, and mostly fit each other.
func TestFindMixed(t *testing.T) {
	next := numbers(15)
	most := 0
	for range 30000 {
		ring := ringOf()
		at, seq := next(40), 1+next(5)
		h := api.Head{At: at, Seq: seq}
		for range next(12) {
			at = whole(ring, at, seq, 1+next(1+next(20)))
			seq++
			if next(12) == 0 {
				seq += next(3) - 1
			}
		}
		for range next(4) {
			count := 1 + next(4)
			put(ring, next(40), [][]byte{lastBlock(1+next(12), count), firstBlock(api.Descriptor{Seq: 1 + next(12), To: upTo(count, 0)}), make([]byte, 64)}[next(3)])
		}
		found, _ := finds(t, ring, h)
		most = max(most, len(found))
		finds(t, ring, api.Head{At: next(40), Seq: 1 + next(12)})
	}
	if most < 8 {
		t.Errorf("no more than %d transactions were found at once", most)
	}
}

// P15.1, P15.2, R4: what is handed in is left as it is, and what is answered is new memory, spare room included.
func TestMemory(t *testing.T) {
	to := append(someDescriptor().To, 1, 2, 3)
	kept := slices.Clone(to)
	d := api.Descriptor{Seq: 0x12345678, To: to[:6]}
	first, _ := Begin(d)
	second, _ := Begin(d)
	clear(first[:cap(first)])
	if !slices.Equal(to, kept) || !bytes.Equal(second, firstBlock(someDescriptor())) {
		t.Errorf("Begin: %v, %v", to, second)
	}
	first, _ = End(7, 7)
	second, _ = End(7, 7)
	clear(first[:cap(first)])
	if !bytes.Equal(second, lastBlock(7, 7)) {
		t.Errorf("End: %v", second)
	}
	room := append(firstBlock(someDescriptor()), 1, 2, 3)
	a, _ := Begins(room[:64])
	b, _ := Begins(room[:64])
	clear(a.To[:cap(a.To)])
	if !slices.Equal(b.To, someDescriptor().To) || !bytes.Equal(room, append(firstBlock(someDescriptor()), 1, 2, 3)) {
		t.Errorf("Begins: %v, %v", b, room)
	}
	room = append(lastBlock(7, 7), 1, 2, 3)
	if _, _, e := Ends(room[:64]); e != api.OK || !bytes.Equal(room, append(lastBlock(7, 7), 1, 2, 3)) {
		t.Errorf("Ends: %v", room)
	}
}

// P15.2, R4: neither with the ring, nor with another answer, nor with each other do the writes share memory.
func TestFindMemory(t *testing.T) {
	ring := ringOf()
	ring[3] = lastBlock(2, 20)
	whole(ring, 0, 1, 20)
	whole(ring, 22, 2, 20)
	for i := range ring {
		ring[i] = append(slices.Clone(ring[i]), 1, 2, 3)[:64]
	}
	list := append(ring, []byte{1}, []byte{2})
	h := api.Head{At: 0, Seq: 1}
	want, _, _ := foundIn(deep(ring), h)
	var all [][]api.Write
	for range 2 {
		found, _, _ := Find(list[:40], h)
		all = append(all, found...)
	}
	for i, writes := range all {
		for k, w := range writes {
			if !bytes.Equal(w.Data, want[i%2][k].Data) {
				t.Fatalf("%d %d shares memory", i, k)
			}
			for at := range w.Data[:cap(w.Data)] {
				w.Data[:cap(w.Data)][at] ^= 255
			}
			writes[k] = api.Write{}
		}
		clear(writes[:cap(writes)])
	}
	for i, b := range list[:40] {
		if !bytes.Equal(b[:67][64:], []byte{1, 2, 3}) {
			t.Errorf("block %d: spare room %v", i, b[:67])
		}
	}
	if again, _, _ := foundIn(ring, h); !slices.EqualFunc(again, want, sameWrites) || list[40][0] != 1 || list[41][0] != 2 {
		t.Error("the ring has changed")
	}
}
