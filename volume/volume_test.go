package volume

import (
	"bytes"
	"fmt"
	"math"
	"slices"
	"strings"
	"testing"

	"drydock/api"
	"drydock/check"
	"drydock/disk"
	"drydock/entry"
	"drydock/image"
	"drydock/journal"
	"drydock/log"
	"drydock/super"
)

func made(t *testing.T, size, format int) *image.Image {
	t.Helper()
	m, e := image.Make(size, format)
	if e != api.OK {
		t.Fatalf("image.Make(%d, %d): %d", size, format, e)
	}
	return m
}

// untouched holds that work writes nothing to a disk, not even what does not last.
func untouched(t *testing.T, d *disk.Disk, what string, work func()) {
	t.Helper()
	before := all(t, d)
	work()
	for n := range before {
		if d.Open(n) != 0 {
			t.Fatalf("%s: block %d was written", what, n)
		}
	}
	if !same(before, all(t, d)) {
		t.Fatalf("%s: blocks are others", what)
	}
}

// P19.1: the blocks of an empty volume lie there and last, those behind are as they were.
func TestMake(t *testing.T) {
	for _, size := range []int{64, 65, 100, 479, 480} {
		for format := 1; format <= 2; format++ {
			for _, more := range []int{0, 1, 480 - size} {
				d := newDisk(t, min(size+more, 480))
				var garbage [][]byte
				for n := range d.Blocks() {
					garbage = append(garbage, filled(64, n))
				}
				lay(t, d, garbage)
				if e := Make(d, size, format); e != api.OK {
					t.Fatalf("Make(%d, %d): %d", size, format, e)
				}
				d.Restart()
				blocks := all(t, d)
				if !same(blocks[:size], made(t, size, format).Blocks()) || !same(blocks[size:], garbage[size:]) {
					t.Errorf("Make(%d, %d): other blocks", size, format)
				}
			}
		}
	}
}

// P19.1: a volume that is made over another one has nothing of it, its log's neither.
func TestMakeAgain(t *testing.T) {
	w := begin(t, 100, 1)
	for n := range 20 {
		w.does(t, call{verb: "create", path: fmt.Sprint("/", n)})
	}
	for _, size := range []int{64, 90, 105} {
		if e := Make(w.d, size, 2); e != api.OK {
			t.Fatalf("Make: %d", e)
		}
		w = &world{w.d, mounted(t, w.d), emptyModel(2)}
		w.holds(t)
		w.does(t, call{verb: "create", path: "/a"})
		if w.v.Super() != (api.Super{Size: size, Format: 2}) || w.v.Free() != size-60 {
			t.Errorf("%v, %d free", w.v.Super(), w.v.Free())
		}
	}
}

// P19.1: no disk, wrong sizes and formats, ahead of the power that is gone; nothing is written.
func TestMakeRefuses(t *testing.T) {
	for _, d := range []*disk.Disk{nil, new(disk.Disk), newDisk(t, 1), newDisk(t, 63)} {
		for _, size := range []int{0, 1, 63, 64, 480} {
			if e := Make(d, size, 1); e != api.ErrArg {
				t.Errorf("Make, a disk of %d, %d: %d", d.Blocks(), size, e)
			}
		}
	}
	d := newDisk(t, 100)
	refuses := func(size, format int) {
		t.Helper()
		if e := Make(d, size, format); e != api.ErrArg {
			t.Errorf("Make(%d, %d): %d", size, format, e)
		}
	}
	wrong := func() {
		for _, size := range append(ends(), 0, 1, 63, 101, 480, 481, 64+1<<32) {
			refuses(size, 1)
			refuses(size, 2)
		}
		for _, format := range append(ends(), 0, 3, 4, 1+1<<32) {
			refuses(64, format)
			refuses(100, format)
		}
	}
	untouched(t, d, "Make", wrong)
	d.Fail(0)
	wrong()
	for range 2 {
		if e := Make(d, 100, 1); e != api.ErrPower {
			t.Errorf("Make without power: %d", e)
		}
	}
	wrong()
}

// P19.1: a Make takes a step for each block, and one that makes them last.
func TestMakeLoss(t *testing.T) {
	for after := range 66 {
		d := newDisk(t, 70)
		d.Fail(after)
		want := api.ErrPower
		if after == 65 {
			want = api.OK
		}
		if e := Make(d, 64, 1); e != want {
			t.Errorf("Make, %d steps: %d", after, e)
		}
	}
}

// unmounted holds that a disk is not mounted, and that nothing is written to it.
func unmounted(t *testing.T, d *disk.Disk, what string, e api.Errno) {
	t.Helper()
	untouched(t, d, what, func() {
		if v, f := Mount(d); v != nil || f != e {
			t.Errorf("%s: Mount: %v %d, not %d", what, v, f, e)
		}
	})
}

// P19.1: a volume that was made is mounted, on disks of any size.
func TestMount(t *testing.T) {
	for _, size := range []int{64, 100, 480} {
		for format := 1; format <= 2; format++ {
			w := begin(t, size, format)
			w.lies(t, "Mount")
			w.holds(t)
			if w.v.Super() != (api.Super{Size: size, Format: format}) || w.v.Free() != size-59 || !same(w.v.Blocks(), made(t, size, format).Blocks()) {
				t.Errorf("%v, %d free", w.v.Super(), w.v.Free())
			}
		}
	}
}

// P19.1: no disk, one without a log, one without power.
func TestMountRefuses(t *testing.T) {
	for _, d := range []*disk.Disk{nil, new(disk.Disk), newDisk(t, 1), newDisk(t, 63)} {
		if v, e := Mount(d); v != nil || e != api.ErrArg {
			t.Errorf("Mount, a disk of %d: %v %d", d.Blocks(), v, e)
		}
	}
	unmounted(t, newDisk(t, 64), "bytes 0", api.ErrForm)
	d := begin(t, 64, 1).d
	d.Fail(0)
	for range 2 {
		if v, e := Mount(d); v != nil || e != api.ErrPower {
			t.Errorf("Mount without power: %v %d", v, e)
		}
	}
	d.Restart()
	mounted(t, d)
	for _, at := range []int{api.AtSuper, api.AtHead} {
		for _, b := range [][]byte{make([]byte, 64), filled(64, 1), all(t, d)[1-at]} {
			blocks := all(t, d)
			blocks[at] = b
			unmounted(t, onDisk(t, blocks), "another block", api.ErrForm)
		}
	}
}

// some is a volume with a bit of everything.
func some(t *testing.T, size, format int) *world {
	t.Helper()
	w := begin(t, size, format)
	w.does(t,
		call{verb: "create", path: "/a"},
		call{verb: "mkdir", path: "/d"},
		call{verb: "mkdir", path: "/d/e"},
		call{verb: "write", path: "/a", n: 60, data: filled(256, 1)},
		call{verb: "link", path: "/a", other: "/d/b"},
		call{verb: "create", path: "/d/c"},
		call{verb: "write", path: "/d/c", n: 700, data: filled(256, 2)},
		call{verb: "write", path: "/d/c", n: 3, data: filled(100, 3)},
		call{verb: "create", path: "/d/e/f"},
	)
	return w
}

// P19.1, P5: of a volume each bit that tells is looked at; none that is not sound is mounted.
func TestMountOfOtherBits(t *testing.T) {
	w := some(t, 90, 1)
	blocks := all(t, w.d)
	for n := range 90 {
		for bit := 0; bit < 512; bit += 1 + (n+bit)%31 {
			blocks[n][bit/8] ^= 1 << (bit % 8)
			d := onDisk(t, blocks)
			blocks[n][bit/8] ^= 1 << (bit % 8)
			looked, e := journal.Look(d)
			if e != api.OK {
				unmounted(t, d, "no Head", e)
				continue
			}
			if _, e := check.Check(looked[:90]); e != api.OK {
				unmounted(t, d, fmt.Sprintf("block %d, bit %d", n, bit), api.ErrForm)
				continue
			}
			v := mounted(t, d)
			if !same(told(v.Blocks()), told(looked[:90])) {
				t.Errorf("block %d, bit %d: other blocks", n, bit)
			}
		}
	}
}

// P19.1: the Size may be that of the disk, not above it.
func TestMountOfSizes(t *testing.T) {
	for size := 64; size <= 68; size++ {
		blocks := made(t, size, 2).Blocks()
		for on := 64; on <= 72; on++ {
			d := newDisk(t, on)
			lay(t, d, blocks[:min(size, on)])
			if on < size {
				unmounted(t, d, "Size", api.ErrForm)
				continue
			}
			if v := mounted(t, d); v.Super().Size != size || len(v.Blocks()) != size {
				t.Errorf("Size %d on %d: %v", size, on, v.Super())
			}
		}
	}
}

// transaction is what a journal's log has of a commit whose blocks do not lie at their places.
func transaction(t *testing.T, h api.Head, list ...api.Write) []api.Write {
	t.Helper()
	var to []int
	for _, w := range list {
		to = append(to, w.At)
	}
	first, e := log.Begin(api.Descriptor{Seq: h.Seq, To: to})
	if e != api.OK {
		t.Fatalf("Begin: %d", e)
	}
	last, e := log.End(h.Seq, len(list))
	if e != api.OK {
		t.Fatalf("End: %d", e)
	}
	blocks := [][]byte{first}
	for _, w := range list {
		blocks = append(blocks, w.Data)
	}
	var writes []api.Write
	for i, b := range append(blocks, last) {
		writes = append(writes, api.Write{At: 19 + (h.At+i)%40, Data: b})
	}
	return writes
}

// P19.1: what Look answers is mounted, or not, whatever lies there.
func TestMountOfTheLog(t *testing.T) {
	for _, h := range []api.Head{{At: 0, Seq: 1}, {At: 37, Seq: 999}, {At: 12, Seq: 1<<30 - 1}} {
		empty := made(t, 70, 1)
		b, _ := super.PutHead(h)
		sound := empty.Blocks()
		sound[1] = b
		if empty.Store(1, api.Node{Kind: 1, Format: 1, Links: 1}, nil) != api.OK {
			t.Fatal("Store")
		}
		unsound := empty.Blocks()
		unsound[1] = b
		node := func(blocks [][]byte) api.Write { return api.Write{At: 3, Data: blocks[3]} }
		with := func(blocks [][]byte, list ...api.Write) *disk.Disk {
			d := onDisk(t, blocks)
			if d.Put(list...) != api.OK || d.Barrier() != api.OK {
				t.Fatal("Put")
			}
			return d
		}
		unmounted(t, with(unsound), "a file without a name", api.ErrForm)
		unmounted(t, with(sound, transaction(t, h, node(unsound))...), "a file without a name in the log", api.ErrForm)
		w := &world{with(unsound, transaction(t, h, node(sound))...), nil, emptyModel(1)}
		w.v = mounted(t, w.d)
		w.lies(t, "Mount")
		w.holds(t)
		if b, _ := w.d.Get(3); !bytes.Equal(b, sound[3]) {
			t.Error("what the log says does not lie there")
		}
		w.d.Restart()
		if b, _ := w.d.Get(3); !bytes.Equal(b, sound[3]) {
			t.Error("what the log says does not last")
		}
	}
}

// P19.1: the power may go at each step of Mount.
func TestMountLoss(t *testing.T) {
	w := some(t, 80, 2)
	for after := 0; ; after++ {
		x := w.again(t)
		x.d.Fail(after)
		v, e := Mount(x.d)
		if e == api.OK {
			if after == 0 {
				t.Error("Mount takes no step")
			}
			return
		}
		if v != nil || e != api.ErrPower {
			t.Fatalf("Mount, %d steps: %v %d", after, v, e)
		}
		x.d.Restart()
		x.v = mounted(t, x.d)
		x.holds(t)
	}
}

// oneOfEach has each call, with a path.
func oneOfEach(at string) []call {
	var list []call
	for _, verb := range []string{"create", "mkdir", "link", "unlink", "rmdir", "rename", "read", "write", "truncate", "stat", "list"} {
		list = append(list, call{verb: verb, path: at, other: at, n: 1, m: 1, data: []byte("x")})
	}
	return list
}

// A Volume that is nil, or that no Mount has made.
func TestNoVolume(t *testing.T) {
	for _, v := range []*Volume{nil, new(Volume)} {
		for _, at := range []string{"", "/", "/a", "/a/b"} {
			for _, c := range oneOfEach(at) {
				if a := c.on(v); a.unlike(answer{e: api.ErrArg}) {
					t.Errorf("%v: %v", c, a)
				}
			}
		}
		if v.Super() != (api.Super{}) || v.Free() != 0 || v.Blocks() != nil {
			t.Errorf("%v %d %v", v.Super(), v.Free(), v.Blocks())
		}
	}
}

// P19.2: Split's errors come ahead of all, the first argument's ahead of the other one's.
func TestPaths(t *testing.T) {
	w := some(t, 100, 1)
	wrong := []struct {
		at string
		e  api.Errno
	}{
		{"", api.ErrForm}, {"a", api.ErrForm}, {"./a", api.ErrForm}, {"/a\x00", api.ErrName}, {"/" + strings.Repeat("x", 18), api.ErrName},
		{strings.Repeat("/a", 17), api.ErrFull}, {strings.Repeat("/", 1025), api.ErrFull},
	}
	for _, x := range wrong {
		w.fails(t, x.e, oneOfEach(x.at)...)
		for _, verb := range []string{"link", "rename"} {
			for _, y := range []string{"/", "/a", "/d", "/none", "/none/x", "/a/x"} {
				w.fails(t, x.e, call{verb: verb, path: y, other: x.at}, call{verb: verb, path: x.at, other: y})
			}
			for _, y := range wrong {
				w.fails(t, x.e, call{verb: verb, path: x.at, other: y.at})
			}
		}
		w.fails(t, x.e, call{verb: "read", path: x.at, n: -1, m: -1}, call{verb: "write", path: x.at, n: -1}, call{verb: "truncate", path: x.at, n: -1})
	}
	for _, at := range []string{"//d//c", "/./d/./c/", "/a/../d/c", "/none/../d/x/../c", "/../d/c"} {
		w.does(t, call{verb: "stat", path: at}, call{verb: "read", path: at, m: 9})
	}
}

// P19.2: paths are looked at from the root on.
func TestResolve(t *testing.T) {
	w := some(t, 100, 2)
	for _, x := range []struct {
		at string
		e  api.Errno
	}{
		{"/none", api.ErrNone}, {"/none/a", api.ErrNone}, {"/d/none", api.ErrNone}, {"/d/none/a/b", api.ErrNone},
		{"/a/b", api.ErrKind}, {"/a/none/x", api.ErrKind}, {"/d/c/x", api.ErrKind}, {"/d/c/x/y", api.ErrKind}, {"/none/a/x", api.ErrNone}, {"/A", api.ErrNone}, {"/aa", api.ErrNone},
	} {
		for _, verb := range []string{"unlink", "rmdir", "read", "write", "truncate", "stat", "list"} {
			w.fails(t, x.e, call{verb: verb, path: x.at, n: -1})
		}
		w.fails(t, x.e, call{verb: "link", path: x.at, other: "/"}, call{verb: "link", path: x.at, other: "/a"}, call{verb: "link", path: x.at, other: "/new"})
		w.fails(t, x.e, call{verb: "rename", path: x.at, other: "/a"}, call{verb: "rename", path: x.at, other: "/new"}, call{verb: "rename", path: x.at, other: x.at}, call{verb: "rename", path: x.at, other: x.at + "/x"})
	}
	for _, verb := range []string{"create", "mkdir"} {
		w.fails(t, api.ErrNone, call{verb: verb, path: "/none/a"}, call{verb: verb, path: "/d/none/x"}, call{verb: verb, path: "/none/a/x"})
		w.fails(t, api.ErrKind, call{verb: verb, path: "/a/x"}, call{verb: verb, path: "/d/c/x"}, call{verb: verb, path: "/a/x/y"})
		w.fails(t, api.ErrThere, call{verb: verb, path: "/a"}, call{verb: verb, path: "/d"}, call{verb: verb, path: "/d/e"}, call{verb: verb, path: "/d/c"})
	}
	for _, verb := range []string{"link", "rename"} {
		w.fails(t, api.ErrNone, call{verb: verb, path: "/a", other: "/none/x"}, call{verb: verb, path: "/a", other: "/d/none/x"})
		w.fails(t, api.ErrKind, call{verb: verb, path: "/a", other: "/a/x"}, call{verb: verb, path: "/a", other: "/d/c/x"}, call{verb: verb, path: "/d/c", other: "/a/x/y"})
		w.fails(t, api.ErrThere, call{verb: verb, path: "/a", other: "/d"}, call{verb: verb, path: "/a", other: "/d/b"}, call{verb: verb, path: "/a", other: "/d/e"})
	}
}

// P19.2: what the root answers.
func TestRoot(t *testing.T) {
	for _, w := range []*world{begin(t, 64, 1), some(t, 100, 2)} {
		for _, at := range []string{"/", "//", "/.", "/a/.."} {
			w.fails(t, api.ErrThere, call{verb: "create", path: at}, call{verb: "mkdir", path: at})
			w.fails(t, api.ErrArg, call{verb: "unlink", path: at}, call{verb: "rmdir", path: at}, call{verb: "rename", path: at, other: at})
			for _, other := range []string{"/a", "/none", "/none/x", "/d", "/d/x"} {
				w.fails(t, api.ErrArg, call{verb: "rename", path: at, other: other}, call{verb: "rename", path: other, other: at})
			}
			w.fails(t, api.ErrKind, call{verb: "link", path: at, other: "/x"}, call{verb: "link", path: at, other: at}, call{verb: "link", path: at, other: "/none/x"})
			w.fails(t, api.ErrKind, call{verb: "read", path: at, n: -1}, call{verb: "write", path: at, n: -1}, call{verb: "truncate", path: at, n: -1})
			w.does(t, call{verb: "stat", path: at}, call{verb: "list", path: at})
		}
	}
	w := some(t, 100, 1)
	w.fails(t, api.ErrNone, call{verb: "link", path: "/none", other: "/"})
	w.fails(t, api.ErrKind, call{verb: "link", path: "/d", other: "/"})
	w.fails(t, api.ErrThere, call{verb: "link", path: "/a", other: "/"})
}

// P19.2: a call of the wrong kind.
func TestKinds(t *testing.T) {
	w := some(t, 100, 1)
	w.fails(t, api.ErrKind, call{verb: "unlink", path: "/d"}, call{verb: "unlink", path: "/d/e"}, call{verb: "rmdir", path: "/a"}, call{verb: "rmdir", path: "/d/c"})
	w.fails(t, api.ErrKind, call{verb: "list", path: "/a"}, call{verb: "list", path: "/d/c"}, call{verb: "link", path: "/d", other: "/x"}, call{verb: "link", path: "/d/e", other: "/"})
	for _, n := range []int{-1, 0, 7000} {
		w.fails(t, api.ErrKind, call{verb: "read", path: "/d", n: n, m: n}, call{verb: "write", path: "/d", n: n, data: filled(257, 1)}, call{verb: "truncate", path: "/d/e", n: n})
	}
	w.fails(t, api.ErrBusy, call{verb: "rmdir", path: "/d"}, call{verb: "rmdir", path: "/d/e"})
	w.does(t, call{verb: "unlink", path: "/d/e/f"}, call{verb: "rmdir", path: "/d/e"})
	w.fails(t, api.ErrNone, call{verb: "rmdir", path: "/d/e"}, call{verb: "unlink", path: "/d/e"}, call{verb: "stat", path: "/d/e/f"})
}

// P19.2: what is made has the volume's Format; all nodes may be made, and made again.
func TestCreate(t *testing.T) {
	for format := 1; format <= 2; format++ {
		w := begin(t, 100, format)
		for round := range 3 {
			for n := 1; n < 32; n++ {
				c := call{verb: []string{"create", "mkdir"}[(n+round)%2], path: fmt.Sprint("/", n)}
				w.does(t, c)
				want := api.Stat{Node: n, Kind: 1 + (n+round)%2, Format: format, Links: 1}
				if s, e := w.v.Stat(c.path); s != want || e != api.OK {
					t.Errorf("%v: %v %d", c, s, e)
				}
			}
			w.holds(t)
			w.fails(t, api.ErrFull, call{verb: "create", path: "/32"}, call{verb: "mkdir", path: "/32"}, call{verb: "create", path: fmt.Sprint("/", 1+round%2, "/x")})
			w.fails(t, api.ErrThere, call{verb: "create", path: "/1"}, call{verb: "mkdir", path: "/31"})
			w.does(t, call{verb: "link", path: fmt.Sprint("/", 2-round%2), other: "/l"}, call{verb: "unlink", path: "/l"})
			if s, _ := w.v.Stat("/"); s != (api.Stat{Kind: 2, Format: format, Links: 1, Size: 64 * 11, Blocks: []int{0, 12, 11}[format]}) {
				t.Errorf("root: %v", s)
			}
			for n := 1; n < 32; n++ {
				w.does(t, call{verb: []string{"unlink", "rmdir"}[(n+round)%2], path: fmt.Sprint("/", n)})
			}
			w.holds(t)
			if w.v.Free() != 41 {
				t.Errorf("%d free", w.v.Free())
			}
		}
	}
}

// links gives a file names, n, in a directory.
func (w *world) links(t *testing.T, at, dir string, n int) {
	t.Helper()
	for i := range n {
		if e := w.v.Link(at, fmt.Sprint(dir, "/", i)); e != api.OK {
			t.Fatalf("Link %d: %d", i, e)
		}
		w.m.do(call{verb: "link", path: at, other: fmt.Sprint(dir, "/", i)})
	}
}

// P19.2: a directory has room for three names in each of MaxFile blocks; no more, not even for one that is
// renamed in it.
func TestFullDirectory(t *testing.T) {
	for format := 1; format <= 2; format++ {
		w := begin(t, 300, format)
		w.does(t, call{verb: "create", path: "/f"}, call{verb: "mkdir", path: "/d"}, call{verb: "mkdir", path: "/e"}, call{verb: "create", path: "/e/x"})
		w.links(t, "/f", "/d", 287)
		w.does(t, call{verb: "rename", path: "/d/286", other: "/d/y"}, call{verb: "rename", path: "/e/x", other: "/d/x"})
		w.holds(t)
		if s, _ := w.v.Stat("/d"); s.Size != 6144 {
			t.Errorf("Stat: %v", s)
		}
		w.fails(t, api.ErrFull, call{verb: "create", path: "/d/z"}, call{verb: "mkdir", path: "/d/z"}, call{verb: "link", path: "/f", other: "/d/z"})
		w.fails(t, api.ErrFull, call{verb: "rename", path: "/f", other: "/d/z"}, call{verb: "rename", path: "/d/5", other: "/d/z"})
		w.fails(t, api.ErrThere, call{verb: "create", path: "/d/5"}, call{verb: "link", path: "/f", other: "/d/5"}, call{verb: "rename", path: "/f", other: "/d/5"}, call{verb: "rename", path: "/d/5", other: "/d/6"})
		w.fails(t, api.ErrArg, call{verb: "rename", path: "/d", other: "/d/z"})
		w.does(t, call{verb: "rename", path: "/d/5", other: "/d/5"}, call{verb: "rename", path: "/d/7", other: "/e/7"})
		w.does(t, call{verb: "rename", path: "/d/5", other: "/d/z"}, call{verb: "create", path: "/d/5"})
		w.fails(t, api.ErrFull, call{verb: "create", path: "/d/7"})
		w.holds(t)
		r := numbers(uint32(format))
		for w.m.items[2].links > 0 && len(w.m.items[2].names) > 0 {
			names := w.m.do(call{verb: "list", path: "/d"}).names
			w.does(t, call{verb: "unlink", path: "/d/" + names[r(len(names))]})
			if s, _ := w.v.Stat("/d"); s.Size < 64*((len(names)+1)/3) || s.Size > 64*len(names) {
				t.Fatalf("%d names: %v", len(names)-1, s)
			}
		}
		if s, _ := w.v.Stat("/d"); s.Size != 0 || s.Blocks != 0 || w.v.Free() != 239 {
			t.Errorf("Stat: %v, %d free", s, w.v.Free())
		}
		w.does(t, call{verb: "rmdir", path: "/d"})
	}
}

// P19.2: MaxLinks names, and one more; ErrThere comes ahead of it, a directory without room behind it.
func TestLinks(t *testing.T) {
	w := begin(t, 480, 2)
	w.does(t, call{verb: "create", path: "/f"}, call{verb: "write", path: "/f", data: filled(200, 1)}, call{verb: "create", path: "/g"})
	for _, d := range []string{"/a", "/b", "/c", "/d"} {
		w.does(t, call{verb: "mkdir", path: d})
	}
	w.links(t, "/f", "/a", 288)
	w.links(t, "/f", "/b", 288)
	w.links(t, "/f", "/c", 288)
	w.links(t, "/f", "/d", 134)
	w.fails(t, api.ErrFull, call{verb: "link", path: "/f", other: "/a/x"})
	w.does(t, call{verb: "link", path: "/f", other: "/d/134"})
	if s, _ := w.v.Stat("/b/77"); s != (api.Stat{Node: 1, Kind: 1, Format: 2, Links: 1000, Size: 200, Blocks: 4}) {
		t.Errorf("Stat: %v", s)
	}
	w.holds(t)
	w.fails(t, api.ErrLinks, call{verb: "link", path: "/f", other: "/x"}, call{verb: "link", path: "/b/9", other: "/a/x"})
	w.fails(t, api.ErrThere, call{verb: "link", path: "/f", other: "/g"}, call{verb: "link", path: "/f", other: "/a/1"}, call{verb: "link", path: "/f", other: "/"})
	w.fails(t, api.ErrKind, call{verb: "link", path: "/f", other: "/g/x"})
	w.fails(t, api.ErrNone, call{verb: "link", path: "/f", other: "/x/y"})
	w.fails(t, api.ErrFull, call{verb: "link", path: "/g", other: "/a/x"}, call{verb: "create", path: "/a/x"})
	w.does(t, call{verb: "rename", path: "/f", other: "/x"}, call{verb: "unlink", path: "/c/7"}, call{verb: "link", path: "/x", other: "/f"})
	w.fails(t, api.ErrLinks, call{verb: "link", path: "/f", other: "/y"})
}

// P19.2: a node, and its blocks, go with its last name alone.
func TestUnlink(t *testing.T) {
	for format := 1; format <= 2; format++ {
		w := begin(t, 100, format)
		w.does(t, call{verb: "create", path: "/a"}, call{verb: "mkdir", path: "/d"}, call{verb: "write", path: "/a", n: 64 * 40, data: filled(256, 1)}, call{verb: "write", path: "/a", data: filled(100, 1)})
		w.links(t, "/a", "/d", 3)
		free := w.v.Free()
		w.does(t, call{verb: "unlink", path: "/a"}, call{verb: "unlink", path: "/d/1"}, call{verb: "unlink", path: "/d/0"})
		if w.v.Free() != free {
			t.Errorf("%d free, not %d", w.v.Free(), free)
		}
		if s, _ := w.v.Stat("/d/2"); s.Links != 1 || s.Size != 64*40+256 || s.Node != 1 {
			t.Errorf("Stat: %v", s)
		}
		w.holds(t)
		w.does(t, call{verb: "unlink", path: "/d/2"})
		if w.v.Free() != 40 {
			t.Errorf("%d free", w.v.Free())
		}
		w.does(t, call{verb: "rmdir", path: "/d"})
		if w.v.Free() != 41 {
			t.Errorf("%d free", w.v.Free())
		}
		w.holds(t)
	}
}

// P19.2: names in one directory, in others, above and below, of files and of directories.
func TestRename(t *testing.T) {
	for format := 1; format <= 2; format++ {
		w := some(t, 100, format)
		w.does(t,
			call{verb: "rename", path: "/a", other: "/a"},
			call{verb: "rename", path: "/d", other: "/d"},
			call{verb: "rename", path: "/d/../a", other: "//./a/"},
			call{verb: "rename", path: "/a", other: "/x"},
			call{verb: "rename", path: "/x", other: "/d/e/x"},
			call{verb: "rename", path: "/d/e/x", other: "/d/x"},
			call{verb: "rename", path: "/d/x", other: "/x"},
			call{verb: "rename", path: "/d/e", other: "/e"},
			call{verb: "rename", path: "/d", other: "/e/d"},
			call{verb: "rename", path: "/e/d/c", other: "/c"},
			call{verb: "rename", path: "/e", other: "/ee"},
			call{verb: "rename", path: "/ee/d", other: "/d"},
			call{verb: "rename", path: "/ee", other: "/d/e"},
		)
		w.holds(t)
		w.fails(t, api.ErrArg, call{verb: "rename", path: "/d", other: "/d/x"}, call{verb: "rename", path: "/d", other: "/d/e"}, call{verb: "rename", path: "/d", other: "/d/e/f/g"}, call{verb: "rename", path: "/d", other: "/d/none/x"}, call{verb: "rename", path: "/d/e", other: "/d/e/e"})
		w.fails(t, api.ErrThere, call{verb: "rename", path: "/d/e", other: "/d"}, call{verb: "rename", path: "/d/e/f", other: "/d/e"}, call{verb: "rename", path: "/x", other: "/d/b"}, call{verb: "rename", path: "/x", other: "/c"}, call{verb: "rename", path: "/d/b", other: "/x"})
		w.fails(t, api.ErrKind, call{verb: "rename", path: "/c", other: "/c/x"}, call{verb: "rename", path: "/c/x", other: "/c/x"}, call{verb: "rename", path: "/d/e", other: "/d/b/e"})
		w.fails(t, api.ErrNone, call{verb: "rename", path: "/none", other: "/none"}, call{verb: "rename", path: "/d/x", other: "/d/x/y"})
		w.does(t, call{verb: "rename", path: "/d", other: "/dd"}, call{verb: "rename", path: "/dd", other: "/ddd"})
		w.holds(t)
	}
}

// P19.2: sixteen names deep.
func TestDeep(t *testing.T) {
	w := begin(t, 100, 1)
	at := ""
	for range 15 {
		at += "/" + strings.Repeat("n", 17)
		w.does(t, call{verb: "mkdir", path: at})
	}
	w.does(t, call{verb: "create", path: at + "/f"}, call{verb: "write", path: at + "/f", data: filled(9, 1)}, call{verb: "mkdir", path: at + "/d"})
	w.fails(t, api.ErrFull, call{verb: "create", path: at + "/d/f"}, call{verb: "stat", path: at + "/d/f"})
	w.holds(t)
	w.does(t, call{verb: "rename", path: "/" + strings.Repeat("n", 17), other: "/n"})
	w.holds(t)
}

// P19.2: each byte and each count at the ends of blocks, over all that lay there, and nothing.
func TestWrite(t *testing.T) {
	for format := 1; format <= 2; format++ {
		for _, at := range []int{0, 1, 62, 63, 64, 65, 127, 128, 255, 256, 300, 64*34 - 1, 6144 - 256, 6144 - 65} {
			w := begin(t, 100, format)
			w.does(t, call{verb: "create", path: "/f"})
			for _, n := range []int{1, 2, 63, 64, 65, 128, 129, 193, 255, 256} {
				c := call{verb: "write", path: "/f", n: at, data: filled(n, n)}
				if at+n > 6144 {
					w.fails(t, api.ErrFull, c)
					continue
				}
				w.does(t, c, call{verb: "read", path: "/f", n: max(0, at-70), m: n + 140}, call{verb: "truncate", path: "/f", n: max(0, at-3)})
				w.does(t, c, call{verb: "write", path: "/f", n: max(0, at-20), data: filled(30, n)}, call{verb: "read", path: "/f", m: 6144})
			}
			w.holds(t)
		}
	}
}

// P19.2: where no block lies are bytes 0, and none is made there.
func TestHoles(t *testing.T) {
	for format := 1; format <= 2; format++ {
		w := begin(t, 100, format)
		w.does(t, call{verb: "create", path: "/f"}, call{verb: "write", path: "/f", n: 6143, data: []byte("x")})
		own := []int{0, 2, 0}[format]
		stat := func(size, blocks int) {
			t.Helper()
			if s, _ := w.v.Stat("/f"); s != (api.Stat{Node: 1, Kind: 1, Format: format, Links: 1, Size: size, Blocks: blocks}) || w.v.Free() != 40-blocks {
				t.Errorf("Stat: %v, %d free", s, w.v.Free())
			}
		}
		stat(6144, 1+own)
		w.does(t, call{verb: "write", path: "/f", n: 640, data: filled(64, 1)})
		stat(6144, 2+[]int{0, 3, 0}[format])
		w.holds(t)
		w.does(t, call{verb: "truncate", path: "/f", n: 6143})
		stat(6143, 2+[]int{0, 3, 0}[format])
		w.does(t, call{verb: "truncate", path: "/f", n: 6144 - 64})
		stat(6144-64, 1+[]int{0, 1, 0}[format])
		w.does(t, call{verb: "truncate", path: "/f", n: 641})
		stat(641, 1+[]int{0, 1, 0}[format])
		w.does(t, call{verb: "truncate", path: "/f", n: 640})
		stat(640, 0)
		w.does(t, call{verb: "truncate", path: "/f", n: 6144}, call{verb: "read", path: "/f", m: 6144})
		stat(6144, 0)
		w.does(t, call{verb: "write", path: "/f", n: 70, data: filled(3, 1)})
		stat(6144, 1)
		w.holds(t)
	}
}

// P19.2: what was there ahead in the blocks that a file takes is not in it.
func TestBlocksOfOthers(t *testing.T) {
	w := begin(t, 64, 1)
	w.does(t, call{verb: "create", path: "/f"}, call{verb: "create", path: "/g"})
	for round := range 10 {
		w.does(t, call{verb: "write", path: "/f", data: filled(128+round, round)}, call{verb: "truncate", path: "/f"})
		w.does(t, call{verb: "write", path: "/g", n: 64*round + 13*round%64, data: filled(1+round, round)}, call{verb: "read", path: "/g", m: 7000}, call{verb: "truncate", path: "/g"})
	}
}

// P19.2: numbers of bytes at their ends, and the errors' order.
func TestWriteRefuses(t *testing.T) {
	w := some(t, 100, 1)
	w.does(t, call{verb: "create", path: "/f"})
	for _, n := range ends() {
		for _, size := range []int{0, 1, 256, 257, 5000} {
			e := api.ErrFull
			if n < 0 {
				e = api.ErrArg
			}
			w.fails(t, e, call{verb: "write", path: "/f", n: n, data: filled(size, 1)})
		}
	}
	w.fails(t, api.ErrFull, call{verb: "write", path: "/f", data: filled(257, 1)}, call{verb: "write", path: "/f", n: 6144, data: filled(1, 1)}, call{verb: "write", path: "/f", n: 6145}, call{verb: "write", path: "/f", n: 5889, data: filled(256, 1)})
	before := w.v.Blocks()
	w.does(t, call{verb: "write", path: "/f"}, call{verb: "write", path: "/f", n: 6144}, call{verb: "write", path: "/a", n: 5000, data: []byte{}})
	if !same(before, w.v.Blocks()) {
		t.Error("blocks are others")
	}
	w.does(t, call{verb: "write", path: "/f", n: 5888, data: filled(256, 1)}, call{verb: "write", path: "/f", n: 6143, data: filled(1, 1)})
}

// P19.2: bytes at all ends of a file.
func TestRead(t *testing.T) {
	w := some(t, 100, 2)
	for _, at := range append(ends(), 0, 1, 59, 60, 63, 64, 65, 315, 316, 317, 320, 500, 6144) {
		for _, n := range append(ends(), 0, 1, 2, 64, 256, 316, 317, 7000) {
			if at < 0 || n < 0 {
				w.fails(t, api.ErrArg, call{verb: "read", path: "/a", n: at, m: n})
				continue
			}
			w.does(t, call{verb: "read", path: "/a", n: at, m: n}, call{verb: "read", path: "/d/c", n: at, m: n}, call{verb: "read", path: "/d/e/f", n: at, m: n})
		}
	}
}

// P19.2: what a file is cut off by is gone: when it grows again there are bytes 0.
func TestTruncate(t *testing.T) {
	for format := 1; format <= 2; format++ {
		for _, size := range []int{0, 1, 2, 31, 63, 64, 65, 66, 100, 127, 128, 129, 191, 192, 193, 255, 256, 257, 300, 318, 319, 320, 321, 330} {
			w := begin(t, 70, format)
			w.does(t, call{verb: "create", path: "/f"}, call{verb: "write", path: "/f", n: 64, data: filled(256, 1)}, call{verb: "truncate", path: "/f", n: size})
			if s, _ := w.v.Stat("/f"); s.Size != size || s.Blocks > (size+63)/64 {
				t.Errorf("Stat: %v", s)
			}
			w.does(t, call{verb: "truncate", path: "/f", n: 400}, call{verb: "write", path: "/f", n: 380, data: filled(9, 1)})
			w.holds(t)
		}
		w := some(t, 100, format)
		for _, size := range append(ends(), 6145, 7000) {
			w.fails(t, api.ErrArg, call{verb: "truncate", path: "/a", n: size})
		}
		w.does(t, call{verb: "truncate", path: "/a", n: 6144}, call{verb: "truncate", path: "/a", n: 6144}, call{verb: "truncate", path: "/a"}, call{verb: "truncate", path: "/a"})
	}
}

// P19.2: names rise by their bytes.
func TestList(t *testing.T) {
	w := begin(t, 100, 1)
	w.does(t, call{verb: "create", path: "/f"})
	for _, name := range []string{"b", "B", "aa", "a", "\xff", "\xc3\xa4", "\x01", " ", "...", "a b", "0", "10", "9", strings.Repeat("z", 17), "z"} {
		w.does(t, call{verb: "link", path: "/f", other: "/" + name})
	}
	names, e := w.v.List("/")
	if want := []string{"\x01", " ", "...", "0", "10", "9", "B", "a", "a b", "aa", "b", "f", "z", strings.Repeat("z", 17), "\xc3\xa4", "\xff"}; e != api.OK || !slices.Equal(names, want) {
		t.Errorf("List: %q %d", names, e)
	}
}

// R4: what is handed in and what is answered is nobody else's.
func TestMemory(t *testing.T) {
	w := some(t, 100, 1)
	b := make([]byte, 100, 300)
	copy(b, filled(100, 1))
	w.does(t, call{verb: "write", path: "/a", data: b})
	clear(b[:300])
	w.holds(t)
	for range 2 {
		b, _ := w.v.Read("/a", 0, 300)
		clear(b[:cap(b)])
		names, _ := w.v.List("/d")
		clear(names[:cap(names)])
		for _, b := range w.v.Blocks() {
			clear(b[:cap(b)])
		}
		w.holds(t)
		w.lies(t, "memory")
	}
	raw := all(t, w.d)
	d := newDisk(t, len(raw))
	lay(t, d, raw)
	v := mounted(t, d)
	if d.Put(api.Write{At: 90, Data: filled(64, 1)}) != api.OK {
		t.Fatal("Put")
	}
	if !same(v.Blocks(), w.again(t).v.Blocks()) {
		t.Error("a volume's blocks hang on the disk")
	}
}

// P3, P19.2: rows of any calls, in both formats, at little room and at much.
func TestAnyCalls(t *testing.T) {
	for seed := range 24 {
		r := numbers(uint32(seed))
		w := begin(t, []int{64, 70, 90, 130, 250, 480}[seed%6], 1+seed/6%2)
		for range 200 {
			w.do(t, w.m.anyCall(r))
			if r(60) == 0 {
				w.holds(t)
				w = w.again(t)
			}
		}
		w.holds(t)
	}
}

// P2, P3: the same calls answer the same, and in the other format too, but for Stat's Format and Blocks.
func TestSameCalls(t *testing.T) {
	for seed := range 6 {
		r := numbers(uint32(100 + seed))
		worlds := []*world{begin(t, 300, 1), begin(t, 300, 1), begin(t, 480, 2)}
		for range 200 {
			c := worlds[0].m.anyCall(r)
			first := c.on(worlds[0].v)
			for _, w := range worlds[1:] {
				a := c.on(w.v)
				if w.m.format == 2 {
					a.stat.Format, a.stat.Blocks = first.stat.Format, first.stat.Blocks
				}
				if a.unlike(first) || a.stat != first.stat {
					t.Fatalf("%v: %v, not %v", c, a, first)
				}
			}
			worlds[0].m.do(c)
		}
		if !same(worlds[0].v.Blocks(), worlds[1].v.Blocks()) || !same(all(t, worlds[0].d), all(t, worlds[1].d)) {
			t.Error("other blocks")
		}
	}
}

// left is a volume in which just so many blocks are free, and its first free ones lie low.
func left(t *testing.T, size, format, free int) *world {
	t.Helper()
	w := begin(t, size, format)
	w.does(t, call{verb: "mkdir", path: "/d"}, call{verb: "create", path: "/d/f"}, call{verb: "create", path: "/fill"})
	for at := 0; w.v.Free() > free && at < 96; at++ {
		w.does(t, call{verb: "write", path: "/fill", n: 64 * at, data: []byte{1}})
		if w.v.Free() < free {
			w.does(t, call{verb: "truncate", path: "/fill", n: 64 * at})
			break
		}
	}
	return w
}

// P6, P19.3: where there is no room calls change nothing, and what goes away is room again.
func TestSpace(t *testing.T) {
	for format := 1; format <= 2; format++ {
		for free := range 8 {
			for _, c := range []call{
				{verb: "write", path: "/d/f", n: 30, data: filled(256, 1)},
				{verb: "write", path: "/d/f", n: 64 * 50, data: filled(256, 1)},
				{verb: "write", path: "/d/f", n: 64 * 4, data: filled(1, 1)},
				{verb: "write", path: "/d/f", n: 64 * 34, data: filled(1, 1)},
				{verb: "create", path: "/e"}, {verb: "mkdir", path: "/e"}, {verb: "link", path: "/d/f", other: "/e"},
				{verb: "rename", path: "/d/f", other: "/e"}, {verb: "rename", path: "/d/f", other: "/d/g"}, {verb: "unlink", path: "/d/f"},
				{verb: "truncate", path: "/d/f", n: 6144}, {verb: "truncate", path: "/fill", n: 3000}, {verb: "truncate", path: "/fill"},
			} {
				w := left(t, 100, format, free)
				w.does(t, call{verb: "create", path: "/x"}) // the root has no room in its one block any more
				free := w.v.Free()
				a := w.do(t, c)
				need := 0
				switch {
				case c.verb == "write" && c.n == 30:
					need = 5 + 2 - format
				case c.verb == "write" && c.n == 64*50:
					need = 4 + 2*(2-format)
				case c.verb == "write" && c.n == 64*34:
					need = 1 + 2*(2-format)
				case c.verb == "write":
					need = 1 + 2 - format
				case c.verb == "create", c.verb == "mkdir", c.verb == "link", c.other == "/e":
					need = 1
				}
				if c.other == "/e" && c.verb == "rename" {
					need = 0 // the directory's one block goes
				}
				if (a.e == api.ErrSpace) != (need > free) {
					t.Errorf("%v, %d free: %d", c, free, a.e)
				}
				w.holds(t)
			}
		}
	}
}

// P6: what is taken away gives all its blocks back.
func TestRoomAgain(t *testing.T) {
	for format := 1; format <= 2; format++ {
		w := begin(t, 200, format)
		r := numbers(uint32(format))
		for range 3 {
			for range 250 {
				w.do(t, w.m.anyCall(r))
			}
			for len(w.m.paths(1)) > 0 {
				w.does(t, call{verb: "unlink", path: w.m.paths(1)[0]})
			}
			for list := w.m.paths(2); len(list) > 1; list = w.m.paths(2) {
				w.does(t, call{verb: "rmdir", path: list[len(list)-1]})
			}
			if s, _ := w.v.Stat("/"); w.v.Free() != 141 || s != (api.Stat{Kind: 2, Format: format, Links: 1}) {
				t.Errorf("%d free, %v", w.v.Free(), s)
			}
		}
	}
}

// with is a world of blocks that are changed by hand.
func (w *world) with(t *testing.T, change func(m *image.Image)) *world {
	t.Helper()
	m, e := image.Open(w.v.Blocks())
	if e != api.OK {
		t.Fatalf("Open: %d", e)
	}
	change(m)
	blocks := append(m.Blocks(), all(t, w.d)[w.v.Super().Size:]...)
	x := &world{onDisk(t, blocks), nil, w.m.clone()}
	x.v = mounted(t, x.d)
	x.m.format = m.Super().Format
	x.holds(t)
	return x
}

// P19.2: while a volume is brought to the new format, what is made has that one.
func TestMixed(t *testing.T) {
	w := some(t, 200, 1).with(t, func(m *image.Image) { m.SetSuper(api.Super{Size: 200, Format: 3, Job: 1, Cursor: 2}) })
	w.does(t, call{verb: "create", path: "/new"}, call{verb: "mkdir", path: "/d/new"}, call{verb: "create", path: "/d/new/new"}, call{verb: "write", path: "/new", n: 64 * 30, data: filled(200, 1)})
	for _, at := range []string{"/", "/a", "/d", "/d/e/f", "/new", "/d/new", "/d/new/new"} {
		want := 1
		if strings.HasSuffix(at, "new") {
			want = 2
		}
		if s, e := w.v.Stat(at); s.Format != want || e != api.OK {
			t.Errorf("Stat(%s): %v %d", at, s, e)
		}
	}
	r := numbers(3)
	for range 300 {
		w.do(t, w.m.anyCall(r))
	}
	w.holds(t)
	if w.v.Super() != (api.Super{Size: 200, Format: 3, Job: 1, Cursor: 2}) {
		t.Errorf("Super: %v", w.v.Super())
	}
}

// P3, P19.3: while jobs go on, all calls answer as ever; of one that is made smaller nothing is taken behind Goal.
func TestJobs(t *testing.T) {
	for seed := range 12 {
		r := numbers(uint32(40 + seed))
		w := begin(t, 160, 1+seed%2)
		for range 150 {
			w.do(t, w.m.anyCall(r))
		}
		s := w.v.Super()
		s.Job, s.Cursor = 2+seed/2%2, r(33)
		if s.Job == 2 {
			s.Goal = 64 + r(96)
		}
		w = w.with(t, func(m *image.Image) { m.SetSuper(s) })
		used, _ := check.Used(w.v.Blocks())
		for range 150 {
			w.do(t, w.m.anyCall(r))
			now, _ := check.Used(w.v.Blocks())
			for _, n := range now {
				if s.Job == 2 && n >= s.Goal && !slices.Contains(used, n) {
					t.Fatalf("block %d is taken, Goal is %d", n, s.Goal)
				}
			}
			used = now
		}
		w.holds(t)
		if w.v.Super() != s {
			t.Errorf("Super: %v, not %v", w.v.Super(), s)
		}
	}
}

// torn is a volume of the new format with two directories in which each block lies by itself, d with 96 of them, of
// one name each, and e with 95 full ones, and a file in 96 pieces; so many blocks are free below all of their
// blocks, and a job is to leave those alone.
func torn(t *testing.T, free int) *world {
	t.Helper()
	m := made(t, 480, 2)
	w := &world{m: emptyModel(2)}
	low := taken(t, m, free)
	var lists [3][]int
	for range 96 {
		for k := range lists {
			lists[k] = append(lists[k], taken(t, m, 1)...)
		}
	}
	root := lists[1][95:]
	lists[1] = lists[1][:95]
	put := func(dir, block int, names ...string) {
		t.Helper()
		x := w.m.items[dir]
		var list []api.Entry
		for _, name := range names {
			n := 3
			if dir == 0 {
				n = len(list) + 1
			}
			list = append(list, api.Entry{Node: n, Name: name})
			x.names[name] = n
		}
		b, e := entry.Encode(list...)
		if e != api.OK || m.SetData(block, b) != api.OK {
			t.Fatalf("entries: %d", e)
		}
	}
	store := func(n int, x api.Node, pointers []int) {
		t.Helper()
		if x.Kind != 0 {
			x.Format = 2
		}
		if e := m.Store(n, x, pointers); e != api.OK {
			t.Fatalf("Store: %d", e)
		}
	}
	put(0, root[0], "d", "e", "f")
	store(0, api.Node{Kind: 2, Links: 1, Size: 64}, root)
	for k := range 2 {
		w.m.items[1+k] = &item{kind: 2, format: 2, links: 1, names: map[string]int{}}
		for i, block := range lists[k] {
			put(1+k, block, []string{fmt.Sprint(i), fmt.Sprint("a", i), fmt.Sprint("b", i)}[:1+2*k]...)
		}
		store(1+k, api.Node{Kind: 2, Links: 1, Size: 64 * len(lists[k])}, lists[k])
	}
	for _, block := range lists[2] {
		if m.SetData(block, make([]byte, 64)) != api.OK {
			t.Fatal("SetData")
		}
	}
	store(3, api.Node{Kind: 1, Links: 382, Size: 6144}, lists[2])
	w.m.items[3] = &item{kind: 1, format: 2, links: 382, data: make([]byte, 6144)}
	// A node that goes gives its blocks back.
	store(4, api.Node{Kind: 1, Links: 1}, low)
	store(4, api.Node{}, nil)
	m.SetSuper(api.Super{Size: 480, Format: 2, Job: 2, Goal: max(64, 59+free)})
	w.d = onDisk(t, m.Blocks())
	w.v = mounted(t, w.d)
	w.holds(t)
	return w
}

func taken(t *testing.T, m *image.Image, n int) []int {
	t.Helper()
	list, e := m.Take(n)
	if e != api.OK {
		t.Fatalf("Take(%d): %d", n, e)
	}
	return list
}

// P19.2, P19.3: the calls that make most blocks others make no more than MaxTx, and where Reserve blocks are free
// there is room for each.
func TestMost(t *testing.T) {
	for _, c := range []call{
		{verb: "rename", path: "/d/0", other: "/e/x"}, {verb: "rename", path: "/d/50", other: "/e/x"}, {verb: "rename", path: "/d/0", other: "/d/x"},
		{verb: "link", path: "/f", other: "/e/x"}, {verb: "link", path: "/d/5", other: "/y"}, {verb: "unlink", path: "/d/0"}, {verb: "unlink", path: "/d/47"},
		{verb: "create", path: "/d/x"}, {verb: "mkdir", path: "/x"}, {verb: "write", path: "/f", n: 30, data: filled(256, 1)},
		{verb: "truncate", path: "/f", n: 6143}, {verb: "truncate", path: "/f", n: 64*90 + 1}, {verb: "truncate", path: "/f", n: 1},
	} {
		for _, free := range []int{5, 6, 7, 8, 9, 14, 15, 16, 17} {
			w := torn(t, free)
			if a := w.do(t, c); a.e != api.OK && (a.e != api.ErrSpace || free >= 16) {
				t.Errorf("%v, %d free: %d", c, free, a.e)
			}
			w.holds(t)
		}
	}
}

// P19.3: a node that is no other needs no room for its map, though that lies where no block is to be.
func TestRoomForNothing(t *testing.T) {
	for _, c := range []call{
		{verb: "write", path: "/f", n: 30, data: filled(256, 1)}, {verb: "truncate", path: "/f", n: 6144},
		{verb: "create", path: "/d/x"}, {verb: "mkdir", path: "/d/x"}, {verb: "rename", path: "/e/0", other: "/e/x"}, {verb: "rename", path: "/e/0", other: "/d/x"}, {verb: "rename", path: "/d/0", other: "/d/0"},
	} {
		w := torn(t, 5)
		w.does(t, c)
		w.holds(t)
		w.fails(t, api.ErrSpace, call{verb: "link", path: "/f", other: "/d/y"}, call{verb: "truncate", path: "/f", n: 6143}, call{verb: "unlink", path: "/d/1"})
	}
}

// P19.3: what goes away with a name is room for what its directory needs.
func TestRoomOfWhatGoes(t *testing.T) {
	w := torn(t, 9)
	w = w.with(t, func(m *image.Image) {
		// The name that stands alone in d's first block is that of a file with all blocks that were free.
		shrink := m.Super()
		m.SetSuper(api.Super{Size: 480, Format: 2})
		b, _ := entry.Encode(api.Entry{Node: 4, Name: "0"})
		_, blocks, _, _ := m.Node(1)
		_, pointers, _, _ := m.Node(3)
		low := taken(t, m, 9)
		for _, n := range low {
			m.SetData(n, make([]byte, 64))
		}
		m.SetData(blocks[0], b)
		m.Store(3, api.Node{Kind: 1, Format: 2, Links: 381, Size: 6144}, pointers)
		m.Store(4, api.Node{Kind: 1, Format: 2, Links: 1, Size: 64 * 9}, low)
		m.SetSuper(shrink)
		w.m.items[1].names["0"], w.m.items[3].links = 4, 381
		w.m.items[4] = &item{kind: 1, format: 2, links: 1, data: make([]byte, 64*9)}
	})
	if w.v.Free() != 0 {
		t.Fatalf("%d free", w.v.Free())
	}
	w.does(t, call{verb: "unlink", path: "/d/0"})
	if w.v.Free() != 2 {
		t.Errorf("%d free", w.v.Free())
	}
	w.holds(t)
}

// P19.2: the same calls, and any others, without a job.
func TestMostWithoutJob(t *testing.T) {
	w := torn(t, 20).with(t, func(m *image.Image) { m.SetSuper(api.Super{Size: 480, Format: 2}) })
	for i := range 3 {
		w.does(t, call{verb: "rename", path: fmt.Sprint("/d/", i), other: fmt.Sprint("/e/x", i)})
	}
	w.fails(t, api.ErrFull, call{verb: "rename", path: "/d/4", other: "/e/x"})
	r := numbers(1)
	for range 200 {
		w.do(t, w.m.anyCall(r))
	}
	w.holds(t)
}

// Sound volumes that these calls would not make: directories with blocks without entries, files with sizes
// far behind their blocks.
func TestOtherVolumes(t *testing.T) {
	w := begin(t, 100, 1)
	w.does(t, call{verb: "mkdir", path: "/d"}, call{verb: "create", path: "/f"})
	w = w.with(t, func(m *image.Image) {
		blocks := taken(t, m, 7)
		for i, n := range blocks {
			var list []api.Entry
			if i%2 == 1 {
				list = append(list, api.Entry{Node: 2, Name: fmt.Sprint(i)})
			}
			b, _ := entry.Encode(list...)
			m.SetData(n, b)
		}
		m.Store(1, api.Node{Kind: 2, Format: 1, Links: 1, Size: 64 * 7}, blocks)
		m.Store(2, api.Node{Kind: 1, Format: 1, Links: 4, Size: 6144}, nil)
		w.m.items[1].names = map[string]int{"1": 2, "3": 2, "5": 2}
		w.m.items[2].links, w.m.items[2].data = 4, make([]byte, 6144)
	})
	for _, list := range [][]call{
		{{verb: "create", path: "/d/x"}, {verb: "unlink", path: "/d/x"}},
		{{verb: "unlink", path: "/d/1"}, {verb: "unlink", path: "/d/5"}, {verb: "unlink", path: "/d/3"}, {verb: "rmdir", path: "/d"}},
		{{verb: "rename", path: "/d/3", other: "/d/x"}, {verb: "rename", path: "/d/x", other: "/x"}, {verb: "write", path: "/f", n: 5000, data: filled(5, 1)}},
		{{verb: "truncate", path: "/f", n: 6000}, {verb: "write", path: "/d/5", n: 63, data: filled(2, 1)}, {verb: "link", path: "/f", other: "/d/y"}},
	} {
		x := w.again(t)
		x.does(t, list...)
		x.holds(t)
	}
	x := w.with(t, func(m *image.Image) {
		b, _ := entry.Encode()
		_, blocks, _, _ := m.Node(1)
		for _, n := range blocks {
			m.SetData(n, b)
		}
		m.Store(2, api.Node{Kind: 1, Format: 1, Links: 1}, nil)
		w.m.items[1].names, w.m.items[2].links, w.m.items[2].data = nil, 1, nil
	})
	free := x.v.Free()
	x.does(t, call{verb: "rmdir", path: "/d"})
	if x.v.Free() != free+8 {
		t.Errorf("%d free, not %d", x.v.Free(), free+8)
	}
}

// P19.2: behind the last number that a transaction may have nothing is changed any more.
func TestLastTransaction(t *testing.T) {
	w := some(t, 100, 1)
	blocks := all(t, w.d)
	b, _ := super.PutHead(api.Head{At: 3, Seq: 1<<30 - 2})
	blocks[1] = b
	w = &world{onDisk(t, blocks), nil, w.m}
	w.v = mounted(t, w.d)
	w.does(t, call{verb: "create", path: "/x"}, call{verb: "create", path: "/y"})
	for range 2 {
		before := w.v.Blocks()
		for _, c := range []call{{verb: "create", path: "/z"}, {verb: "unlink", path: "/x"}, {verb: "rename", path: "/x", other: "/z"}, {verb: "write", path: "/a", data: []byte("x")}, {verb: "truncate", path: "/a", n: 1}} {
			if a := c.on(w.v); a.unlike(answer{e: api.ErrFull}) || !same(before, w.v.Blocks()) {
				t.Errorf("%v: %v", c, a)
			}
		}
		w.does(t, call{verb: "rename", path: "/x", other: "/x"}, call{verb: "write", path: "/a", n: 5}, call{verb: "truncate", path: "/a", n: 316})
		w.lies(t, "Seq")
		w.holds(t)
		w.d.Restart()
		w.v = mounted(t, w.d)
	}
}

// What is given up with anything but an error is not taken for one.
func TestOtherPanic(t *testing.T) {
	w := begin(t, 64, 1)
	for _, x := range []any{"text", api.ErrNone, math.Pi} {
		func() {
			defer func() {
				if r := recover(); r != x {
					t.Errorf("%v, not %v", r, x)
				}
			}()
			w.v.do(func() { panic(x) })
			t.Error("no panic")
		}()
	}
}
