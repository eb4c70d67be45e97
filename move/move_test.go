package move

import (
	"fmt"
	"slices"
	"testing"

	"drydock/api"
	"drydock/chain"
	"drydock/check"
	"drydock/entry"
	"drydock/extent"
	"drydock/field"
	"drydock/flags"
	"drydock/image"
	"drydock/node"
	"drydock/super"
	"drydock/tree"
	"drydock/volume"
)

// some is a volume with files and directories, in pieces, with holes, and with long maps.
func some(t *testing.T, room, size, format int) *world {
	t.Helper()
	w := begin(t, room, size, format)
	w.does(t, call{verb: "mkdir", path: "/d"}, call{verb: "mkdir", path: "/d/e"})
	w.creates(t, "/a", "/b", "/d/c", "/d/e/f", "/g")
	w.fills(t, 0, 6, 1, "/a", "/b", "/g")
	w.fills(t, 0, 40, 9, "/d/c", "/d/e/f")
	w.does(t, call{verb: "link", path: "/a", other: "/d/h"}, call{verb: "unlink", path: "/g"}, call{verb: "write", path: "/d/c", n: 6000, data: filled(100, 3)}, call{verb: "truncate", path: "/d/e/f", n: 3000})
	return w
}

// P1, R1, P20: of no volume.
func TestNoVolume(t *testing.T) {
	for _, v := range []*volume.Volume{nil, {}} {
		for _, n := range append(ends(), 0, 1, 2, 3, 4, 64, 65, 480) {
			if e := Grow(v, n); e != api.ErrArg {
				t.Errorf("Grow(%d): %d", n, e)
			}
			for _, m := range append(ends(), 0, 1, 64) {
				if e := Start(v, n, m); e != api.ErrArg {
					t.Errorf("Start(%d, %d): %d", n, m, e)
				}
			}
		}
		for _, at := range []string{"", "/", "/a", "a", "/\x00"} {
			if n, e := Pieces(v, at); n != 0 || e != api.ErrArg {
				t.Errorf("Pieces(%q): %d %d", at, n, e)
			}
		}
		last, e := Step(v)
		if last || e != api.ErrArg || Left(v) != 0 {
			t.Errorf("Step: %v %d, Left: %d", last, e, Left(v))
		}
	}
}

// grows holds that Grow makes nothing else another, and that the blocks that come are those that lie there.
func (w *world) grows(t *testing.T, size int) {
	t.Helper()
	before := shoot(t, w.v)
	if e := Grow(w.v, size); e != api.OK {
		t.Fatalf("Grow(%d): %d", size, e)
	}
	after := shoot(t, w.v)
	want := before.super
	want.Size = size
	lying := append(slices.Clone(before.blocks), all(t, w.d)[before.super.Size:size]...)
	if after.super != want || after.picture != before.picture || !same(after.blocks[1:], lying[1:]) || !slices.Equal(before.up, after.up) || after.free != before.free+size-before.super.Size {
		t.Fatalf("Grow(%d): %v, %d free, not %v", size, after.super, after.free, before.free)
	}
	w.lies(t, "Grow")
}

// refuses holds that a call answers an error, and that no block is another, of the disk either.
func (w *world) refuses(t *testing.T, what string, want, e api.Errno, before [][]byte) {
	t.Helper()
	if e != want || !same(before, all(t, w.d)) {
		t.Fatalf("%s: %d, not %d, or a block is another", what, e, want)
	}
}

// P20.1
func TestGrow(t *testing.T) {
	for format := 1; format <= 2; format++ {
		w := some(t, 200, 120, format)
		for _, n := range append(ends(), 0, 59, 63, 64, 119, 120, 201, 480, 481) {
			before := all(t, w.d)
			w.refuses(t, fmt.Sprint("Grow ", n), api.ErrArg, Grow(w.v, n), before)
		}
		w.grows(t, 121)
		w.grows(t, 199)
		w.fills(t, 6, 50, 1, "/a")
		w.grows(t, 200)
		w.refuses(t, "Grow 200", api.ErrArg, Grow(w.v, 200), all(t, w.d))
		w.v = mounted(t, w.d)
		w.holds(t)
		if w.v.Super() != (api.Super{Size: 200, Format: format}) {
			t.Errorf("Super: %v", w.v.Super())
		}
	}
}

// P20.1: a volume from the least to the greatest.
func TestGrowAll(t *testing.T) {
	w := begin(t, 480, 64, 2)
	for n := 65; n <= 480; n += 83 {
		w.grows(t, n)
	}
	w.refuses(t, "Grow 481", api.ErrArg, Grow(w.v, 481), all(t, w.d))
	w.creates(t, "/a", "/b", "/c", "/d")
	w.fills(t, 0, 96, 1, "/a", "/b", "/c", "/d")
	w.holds(t)
}

// P20.1: while jobs go on.
func TestGrowWithJobs(t *testing.T) {
	for job := 1; job <= 3; job++ {
		w := some(t, 300, 240, 1)
		w.starts(t, job, []int{0, 0, 150, 0}[job])
		if job == 2 {
			before := all(t, w.d)
			for _, n := range append(ends(), 0, 240, 301) {
				w.refuses(t, "Grow", api.ErrArg, Grow(w.v, n), before)
			}
			for _, n := range []int{241, 270, 300} {
				w.refuses(t, "Grow", api.ErrBusy, Grow(w.v, n), before)
			}
			w.finish(t)
			w.grows(t, 151)
			continue
		}
		w.grows(t, 241)
		w.step(t)
		w.grows(t, 300)
		w.finish(t)
		w.holds(t)
	}
}

// P20.2: which error, in the order in which they are told.
func TestStartRefuses(t *testing.T) {
	for format := 1; format <= 2; format++ {
		w := some(t, 200, 160, format)
		before := all(t, w.d)
		try := func(job, goal int, want api.Errno) {
			t.Helper()
			w.refuses(t, fmt.Sprint("Start ", job, " ", goal), want, Start(w.v, job, goal), before)
		}
		for _, n := range append(ends(), 0, 4, 5) {
			for _, goal := range append(ends(), 0, 64, 159) {
				try(n, goal, api.ErrArg)
			}
		}
		for _, goal := range append(ends(), 1, 63, 64, 100, 159, 160) {
			try(1, goal, api.ErrArg)
			try(3, goal, api.ErrArg)
		}
		for _, goal := range append(ends(), 0, 1, 59, 63, 160, 161, 200, 480) {
			try(2, goal, api.ErrArg)
		}
		try(2, 64, api.ErrSpace)
		if format == 2 {
			try(1, 0, api.ErrDone)
		}
		for job := 1; job <= 3; job++ {
			if job == 1 && format == 2 {
				continue
			}
			w = w.again(t)
			w.starts(t, job, []int{0, 0, 150, 0}[job])
			before = all(t, w.d)
			for _, n := range append(ends(), 0, 1, 2, 3, 4) {
				for _, goal := range append(ends(), 0, 64, 150, 159) {
					try(n, goal, api.ErrBusy)
				}
			}
			w.finish(t)
			w = some(t, 200, 160, format)
			before = all(t, w.d)
		}
	}
}

// P20.2: how small a volume may be made.
func TestStartRoom(t *testing.T) {
	for format := 1; format <= 2; format++ {
		w := some(t, 200, 200, format)
		used, _ := check.Used(w.v.Blocks())
		before := all(t, w.d)
		for goal := 64; goal < len(used)+16; goal++ {
			w.refuses(t, fmt.Sprint("Start 2 ", goal), api.ErrSpace, Start(w.v, 2, goal), before)
		}
		for _, goal := range []int{len(used) + 16, len(used) + 17, 199} {
			x := w.again(t)
			x.starts(t, 2, goal)
			x.finish(t)
			x.holds(t)
			if x.v.Super() != (api.Super{Size: goal, Format: format}) || len(x.v.Blocks()) != goal {
				t.Errorf("goal %d: %v", goal, x.v.Super())
			}
		}
	}
}

// P20.3: without a job.
func TestStepOfNone(t *testing.T) {
	w := some(t, 200, 160, 1)
	before := all(t, w.d)
	for range 3 {
		last, e := Step(w.v)
		w.refuses(t, fmt.Sprint("Step ", last), api.ErrNone, e, before)
		if last || Left(w.v) != 0 {
			t.Errorf("Step: %v, Left: %d", last, Left(w.v))
		}
	}
	for range 2 {
		w.starts(t, 3, 0)
		w.finish(t)
		if last, e := Step(w.v); last || e != api.ErrNone || Left(w.v) != 0 {
			t.Errorf("Step behind the last: %v %d, %d left", last, e, Left(w.v))
		}
	}
}

// P20.3: JobMigrate goes from node to node; calls go on meanwhile, and what they make is New.
func TestMigrate(t *testing.T) {
	w := some(t, 200, 200, 1)
	w.starts(t, 1, 0)
	if Left(w.v) != 33 {
		t.Errorf("Left: %d", Left(w.v))
	}
	w.step(t)
	w.does(t, call{verb: "unlink", path: "/b"})
	w.creates(t, "/x", "/y", "/z")
	w.fills(t, 0, 5, 2, "/x", "/a", "/y")
	if n := w.finish(t); n != 7-1-1+1 {
		t.Errorf("%d steps", n)
	}
	w.holds(t)
	for _, at := range []string{"/", "/a", "/d", "/d/c", "/d/e", "/d/e/f", "/x"} {
		if s, e := w.v.Stat(at); s.Format != 2 || e != api.OK {
			t.Errorf("Stat(%s): %v %d", at, s, e)
		}
	}
	w.v = mounted(t, w.d)
	w.holds(t)
	if e := Start(w.v, 1, 0); e != api.ErrDone {
		t.Errorf("Start: %d", e)
	}
}

// P20.3: of an empty volume, and of one with all nodes.
func TestMigrateAll(t *testing.T) {
	w := begin(t, 300, 300, 1)
	w.starts(t, 1, 0)
	if n := w.finish(t); n != 2 {
		t.Errorf("%d steps", n)
	}
	w = begin(t, 300, 300, 1)
	for n := range 31 {
		w.creates(t, fmt.Sprint("/", n))
	}
	w.fills(t, 0, 4, 1, "/0", "/1", "/2", "/10", "/29", "/30")
	w.starts(t, 1, 0)
	for left := 33; left > 1; left-- {
		if Left(w.v) != left || w.v.Super().Cursor != 33-left {
			t.Errorf("Left: %d, not %d, %v", Left(w.v), left, w.v.Super())
		}
		w.step(t)
	}
	if last, e := w.step(t); !last || e != api.OK {
		t.Errorf("Step: %v %d", last, e)
	}
	w.holds(t)
}

// P20.3: maps that are longer in the new format; ErrSpace where there is no room for them, and the step is done
// when there is.
func TestMigrateRoom(t *testing.T) {
	w := begin(t, 480, 300, 1)
	w.creates(t, "/a", "/b", "/full")
	w.fills(t, 0, 96, 1, "/a", "/b")
	w.starts(t, 1, 0)
	for n := 0; w.v.Free() > 0; n++ {
		w.do(t, call{verb: "write", path: "/full", n: 64 * n, data: filled(64, n)})
		if n > 95 {
			t.Fatalf("%d free", w.v.Free())
		}
	}
	w.step(t)
	for range 2 {
		if last, e := w.step(t); last || e != api.ErrSpace || w.v.Super().Cursor != 1 {
			t.Fatalf("Step: %v %d, %v", last, e, w.v.Super())
		}
	}
	w.does(t, call{verb: "truncate", path: "/full", n: 64})
	w.finish(t)
	if n, e := Pieces(w.v, "/a"); n != 96 || e != api.OK {
		t.Errorf("Pieces: %d %d", n, e)
	}
	w.holds(t)
	// A greater volume has room, too.
	w = begin(t, 480, 300, 1)
	w.creates(t, "/a", "/b", "/full")
	w.fills(t, 0, 96, 1, "/a", "/b")
	for n := 0; w.v.Free() > 2; n++ {
		w.fills(t, n, n+1, 1, "/full")
	}
	w.starts(t, 1, 0)
	for e := api.OK; e != api.ErrSpace; {
		_, e = w.step(t)
	}
	w.grows(t, 310)
	w.finish(t)
	w.holds(t)
}

// P20.3: a volume in which no free block lies by another may have to take more blocks as it is made smaller.
func TestShrink(t *testing.T) {
	for format := 1; format <= 2; format++ {
		w := some(t, 300, 280, format)
		w.creates(t, "/x", "/y")
		w.fills(t, 0, 60, 1, "/x", "/y")
		w.does(t, call{verb: "unlink", path: "/x"})
		used, _ := check.Used(w.v.Blocks())
		goal := len(used) + 16
		w.starts(t, 2, goal)
		behind := 0
		for _, n := range used {
			if n >= goal {
				behind++
			}
		}
		if Left(w.v) != behind+1 || behind < 10 {
			t.Errorf("Left: %d, %d behind", Left(w.v), behind)
		}
		w.step(t)
		w.creates(t, "/z")
		w.fills(t, 0, 3, 1, "/z", "/a")
		w.does(t, call{verb: "write", path: "/y", n: 1000, data: filled(200, 9)}, call{verb: "truncate", path: "/y", n: 64*55 + 1})
		w.finish(t)
		w.v = mounted(t, w.d)
		w.holds(t)
		if w.v.Super() != (api.Super{Size: goal, Format: format}) || len(w.v.Blocks()) != goal {
			t.Errorf("Super: %v", w.v.Super())
		}
		// What is behind is not asked for any more, till it comes again.
		w.grows(t, 300)
		w.holds(t)
	}
}

// P20.3: where nothing lies behind Goal, there is the last step alone.
func TestShrinkOfNothing(t *testing.T) {
	for _, goal := range []int{76, 77, 100, 479} {
		w := begin(t, 480, 480, 2)
		w.creates(t, "/a")
		w.starts(t, 2, goal)
		if Left(w.v) != 1 {
			t.Errorf("Left: %d", Left(w.v))
		}
		if n := w.finish(t); n != 1 {
			t.Errorf("%d steps", n)
		}
		w.holds(t)
	}
	w := begin(t, 480, 480, 2)
	if e := Start(w.v, 2, 74); e != api.ErrSpace {
		t.Errorf("Start: %d", e)
	}
	w.starts(t, 2, 75)
	w.finish(t)
}

// P20.3: while a volume is made smaller all that is ahead of Goal may be taken; then there is no room for a step,
// till something goes away. One block is room for one more step.
func TestShrinkRoom(t *testing.T) {
	for format := 1; format <= 2; format++ {
		w := begin(t, 300, 300, format)
		w.creates(t, "/a", "/b", "/c")
		w.fills(t, 0, 60, 1, "/a", "/b")
		w.does(t, call{verb: "unlink", path: "/a"})
		used, _ := check.Used(w.v.Blocks())
		w.starts(t, 2, len(used)+16)
		for n := 0; w.v.Free() > 0 && n < 96; n++ {
			w.do(t, call{verb: "write", path: "/c", n: 64 * n, data: filled(64, n)})
		}
		size := call{verb: "stat", path: "/c"}.on(w.v).stat.Size
		if w.v.Free() != 0 || Left(w.v) < 5 {
			t.Fatalf("%d free, %d left", w.v.Free(), Left(w.v))
		}
		for range 2 {
			if last, e := w.step(t); last || e != api.ErrSpace {
				t.Fatalf("Step: %v %d", last, e)
			}
		}
		for free := 1; Left(w.v) > 1; free++ {
			size -= 64
			w.does(t, call{verb: "truncate", path: "/c", n: size})
			free := w.v.Free()
			if _, e := w.step(t); e != api.OK && (format == 1 || free > 1) {
				t.Fatalf("Step: %d, %d free, %d left", e, free, Left(w.v))
			}
		}
		w.finish(t)
		w.holds(t)
	}
}

// laid is where a node's blocks lie; a directory's are as many as its entries need.
type laid struct{ pointers, own []int }

// build is a volume whose nodes' blocks lie where they are wished: node 0 is the root, and has a name of one letter
// for each other one. All nodes are of one format, but if the volume is Mixed: then those that are listed are Old.
// Blocks of their own that are not told lie at the end.
func build(t *testing.T, s api.Super, old []int, nodes ...laid) *world {
	t.Helper()
	must := func(e api.Errno) {
		t.Helper()
		if e != api.OK {
			t.Fatalf("build: %d", e)
		}
	}
	m, e := image.Make(s.Size, 1)
	must(e)
	blocks := m.Blocks()
	up := []complex128{complex(0, 59)}
	used := row(0, 59, 1)
	for _, l := range nodes {
		used = append(append(used, l.pointers...), l.own...)
	}
	for n, l := range nodes {
		format := s.Format
		if s.Format == 3 {
			format = 2
		}
		if slices.Contains(old, n) {
			format = 1
		}
		for p := s.Size - 1; len(l.own) < needed(format, l.pointers); p-- {
			if !slices.Contains(used, p) {
				l.own, used = append(l.own[:len(l.own):len(l.own)], p), append(used, p)
			}
		}
		for k, p := range l.pointers {
			if p != 0 {
				blocks[p] = filled(64, n+k)
			}
		}
		for _, p := range slices.Concat(l.pointers, l.own) {
			if p != 0 {
				up = append(up, complex(float64(p), 1))
			}
		}
		var x api.Node
		var writes []api.Write
		if format == 1 {
			x, writes, e = tree.Plan(l.pointers, l.own)
		} else {
			list, f := extent.From(l.pointers)
			must(f)
			x, writes, e = chain.Plan(list, l.own)
		}
		must(e)
		if len(writes) != len(l.own) {
			t.Fatalf("node %d: %d blocks of its own", n, len(writes))
		}
		for _, w := range writes {
			blocks[w.At] = w.Data
		}
		x.Kind, x.Links, x.Size = 1, 1, 64*len(l.pointers)
		if n == 0 {
			x.Kind = 2
		}
		half, e := node.Encode(x)
		must(e)
		copy(blocks[3+n/2][n%2*32:], half)
	}
	for k, p := range nodes[0].pointers {
		var list []api.Entry
		for n := 3*k + 1; n < len(nodes) && n < 3*k+4; n++ {
			list = append(list, api.Entry{Node: n, Name: string(rune('a' + n - 1))})
		}
		blocks[p], e = entry.Encode(list...)
		must(e)
	}
	f, e := flags.Mark(flags.New(), true, up...)
	must(e)
	blocks[2], e = field.Seal(append(f, 0, 0, 0, 0))
	must(e)
	blocks[0], e = super.Encode(s)
	must(e)
	d := onDisk(t, blocks)
	w := &world{d, mounted(t, d), mounted(t, onDisk(t, blocks))}
	w.lies(t, "build")
	return w
}

// row answers numbers from one on, so many, each by more than the one ahead.
func row(from, count, by int) []int {
	list := make([]int, count)
	for i := range list {
		list[i] = from + i*by
	}
	return list
}

// sparse has each number at a place of its own, with zeros between.
func sparse(by int, numbers ...int) []int {
	list := make([]int, by*len(numbers)-by+1)
	for i, n := range numbers {
		list[by*i] = n
	}
	return list
}

// rest is a node that has all blocks ahead of 150 but those of others, and as many more as are to be free.
func rest(format, free int, others ...laid) laid {
	list := row(59, 91, 1)
	for _, l := range others {
		list = slices.DeleteFunc(list, func(n int) bool { return slices.Contains(l.pointers, n) || slices.Contains(l.own, n) })
	}
	list = list[:len(list)-free]
	own := 0
	for own < needed(format, list[own:]) {
		own++
	}
	return laid{list[own:], list[:own]}
}

// needed answers how many blocks of its own a map has.
func needed(format int, pointers []int) int {
	if format == 1 {
		n, _ := tree.Need(pointers)
		return n
	}
	n, _ := chain.Need(extents(pointers))
	return n
}

// P20.3: where there is no room for the first node's blocks there may be for another's, where there is none for as
// many as may be moved there may be for fewer, and a map may be moved alone.
func TestShrinkLittle(t *testing.T) {
	root := laid{pointers: []int{59}}
	lone := laid{row(160, 6, 2), []int{180}}
	few := laid{row(195, 3, 1), nil}
	ahead := laid{[]int{61, 63, 65, 67, 69}, []int{181}}
	for format := 1; format <= 2; format++ {
		long := []laid{{sparse(20, 150, 152, 154), []int{190, 191, 192}}, {row(150, 20, 2), []int{190, 191}}}[format-1]
		for _, c := range []struct {
			nodes []laid
			// There is no first step if fewer blocks are free, and may be no later one.
			first, later int
		}{
			{[]laid{root, lone}, 1, 1}, {[]laid{root, few}, 1, 1}, {[]laid{root, ahead}, 1, 1}, {[]laid{root, long}, len(long.own), len(long.own)},
			{[]laid{root, long, few}, 1, len(long.own)}, {[]laid{root, ahead, few}, 1, 1}, {[]laid{root, few, lone}, 1, 1},
		} {
			for free := range 17 {
				s := api.Super{Size: 200, Format: format, Job: 2, Goal: 150}
				nodes := append(c.nodes[:len(c.nodes):len(c.nodes)], rest(format, free, c.nodes...))
				w := build(t, s, nil, nodes...)
				if w.v.Free() != free {
					t.Fatalf("%d free, not %d", w.v.Free(), free)
				}
				last, e := w.step(t)
				if last || (e == api.OK) != (free >= c.first) {
					t.Errorf("%d free: %v %d", free, last, e)
				}
				for !last && e == api.OK {
					last, e = w.step(t)
				}
				if !last && w.v.Free() >= c.later {
					t.Errorf("%d free of %d, %d left", w.v.Free(), free, Left(w.v))
				}
				w.holds(t)
			}
		}
	}
}

// P20.3, P7: files in as many pieces as can be, whose maps are the longest, and of which all lies behind Goal.
func TestShrinkMost(t *testing.T) {
	for format := 1; format <= 2; format++ {
		own := row(400, needed(format, row(200, 96, 2)), 1)
		goal := 59 + 1 + 96 + len(own) + 16
		w := build(t, api.Super{Size: 480, Format: format}, nil, laid{pointers: []int{470}}, laid{row(200, 96, 2), own})
		w.starts(t, 2, goal)
		if Left(w.v) != 1+1+96+len(own) {
			t.Errorf("Left: %d", Left(w.v))
		}
		// A directory, and a file of 96 blocks, 4 at a time; the map goes with the first of these.
		if n := w.finish(t); n != 1+24+1 {
			t.Errorf("%d steps", n)
		}
		w.holds(t)
	}
}

// P20.3, P20.4: JobGather lays in one run what has at most 6 blocks, and is in more pieces than it needs.
func TestGather(t *testing.T) {
	for format := 1; format <= 2; format++ {
		list := []struct {
			pointers []int
			gathers  bool
		}{
			{nil, false}, {[]int{70}, false}, {[]int{72, 73}, false}, {[]int{76, 75}, true}, {[]int{78, 0, 79}, false}, {[]int{81, 0, 100}, false}, {[]int{0, 0, 103, 102}, true},
			{[]int{105, 106, 0, 0, 120}, false}, {[]int{122, 124, 0, 123}, true}, {row(130, 6, 2), true}, {row(150, 7, 2), false}, {append(row(170, 6, 1), 180), false}, {append(row(182, 5, 1), 190), true},
			{sparse(19, row(200, 6, 3)...), false}, {append(sparse(19, row(220, 5, 3)...), 240), true}, {append(make([]int, 94), 251, 250), true}, {row(260, 96, 1), false}, {append(row(360, 6, 1), 0, 370, 368), false},
			{append(append(make([]int, 33), 372, 371), append(make([]int, 58), 380, 378, 376)...), true},
		}
		nodes := []laid{{pointers: []int{60, 62, 64, 66, 63, 68, 69}}}
		var want []int
		for n, c := range list {
			nodes = append(nodes, laid{pointers: c.pointers})
			if c.gathers {
				want = append(want, n+1)
			}
		}
		w := build(t, api.Super{Size: 480, Format: format}, nil, nodes...)
		w.starts(t, 3, 0)
		if Left(w.v) != 33 {
			t.Errorf("Left: %d", Left(w.v))
		}
		var got []int
		for last := false; !last; {
			last, _ = w.step(t)
			if !last {
				got = append(got, w.v.Super().Cursor-1)
			}
		}
		if !slices.Equal(got, want) {
			t.Errorf("format %d: %v, not %v", format, got, want)
		}
		w.holds(t)
	}
}

// P20.3: a directory of at most 6 blocks is gathered, too.
func TestGatherDirectories(t *testing.T) {
	for format := 1; format <= 2; format++ {
		w := begin(t, 200, 200, format)
		w.does(t, call{verb: "mkdir", path: "/d"}, call{verb: "mkdir", path: "/e"})
		for n := range 12 {
			w.creates(t, fmt.Sprint("/d/", n), fmt.Sprint("/e/", n))
		}
		w.starts(t, 3, 0)
		if w.step(t); w.v.Super().Cursor != 2 {
			t.Errorf("%v", w.v.Super())
		}
		if w.step(t); w.v.Super().Cursor != 3 {
			t.Errorf("%v", w.v.Super())
		}
		w.finish(t)
		w.holds(t)
	}
}

// P20.3: only where there is a free run of as many blocks; what is behind goes on.
func TestGatherRoom(t *testing.T) {
	for format := 1; format <= 2; format++ {
		for gap := range 8 {
			// Files of 6 to 2 blocks with single free ones between, a gap, and all else is taken.
			nodes := []laid{{pointers: []int{59, 60, 61}}}
			at := 62
			for n := 6; n >= 2; n-- {
				nodes = append(nodes, laid{pointers: row(at, n, 2)})
				at += 2 * n
			}
			at += gap - 1
			nodes = append(nodes, laid{pointers: row(at, 90, 1)}, laid{pointers: row(at+90, 20, 1)})
			size := at + 110
			for _, l := range nodes {
				size += needed(format, l.pointers)
			}
			w := build(t, api.Super{Size: size, Format: format}, nil, nodes...)
			if g := shoot(t, w.v).gap(); g != max(1, gap) {
				t.Fatalf("gap %d, not %d", g, gap)
			}
			w.starts(t, 3, 0)
			// Of the first one that has room the blocks that it leaves are all single: it is the first and the last one.
			want := 32
			if gap >= 2 {
				want = max(1, 7-gap) + 1
			}
			last, _ := w.step(t)
			if last != (want == 32) || !last && w.v.Super().Cursor != want {
				t.Errorf("gap %d: %v, %v, not %d", gap, last, w.v.Super(), want)
			}
			if !last {
				w.finish(t)
			}
			w.holds(t)
		}
	}
}

// P20.3: the free run is at one end of what there is, or there is none, though blocks are free.
func TestGatherEnds(t *testing.T) {
	for format := 1; format <= 2; format++ {
		for _, c := range []struct{ root, first, second, want int }{{59, 61, 60, 62}, {63, 62, 61, 59}, {61, 62, 60, 0}, {59, 63, 60, 61}} {
			w := build(t, api.Super{Size: 64, Format: format}, nil, laid{pointers: []int{c.root}}, laid{pointers: []int{c.first, c.second}})
			w.starts(t, 3, 0)
			if n := w.finish(t); n != min(c.want, 1)+1 {
				t.Errorf("%v: %d steps", c, n)
			}
			if up := shoot(t, w.v).up; c.want != 0 && (!slices.Contains(up, c.want) || !slices.Contains(up, c.want+1)) {
				t.Errorf("%v: %v", c, up)
			}
			w.holds(t)
		}
	}
}

// P20.4
func TestPieces(t *testing.T) {
	for format := 1; format <= 2; format++ {
		list := [][]int{nil, {70}, {80, 81, 82}, {85, 84}, {90, 0, 91}, {93, 94, 0, 0, 95, 97}, row(100, 96, 2), row(300, 96, 1), sparse(5, row(400, 20, 1)...)}
		nodes := []laid{{pointers: []int{60, 61, 62}}}
		for _, pointers := range list {
			nodes = append(nodes, laid{pointers: pointers})
		}
		w := build(t, api.Super{Size: 480, Format: format}, nil, nodes...)
		for k, want := range []int{0, 1, 1, 2, 2, 3, 96, 1, 20} {
			at := "/" + string(rune('a'+k))
			if n, e := Pieces(w.v, at); n != want || e != api.OK {
				t.Errorf("Pieces(%s): %d %d, not %d", at, n, e, want)
			}
		}
		w.does(t, call{verb: "mkdir", path: "/dir"})
		for at, want := range map[string]api.Errno{"": api.ErrForm, "a": api.ErrForm, "/": api.ErrKind, "/dir": api.ErrKind, "/dir/x": api.ErrNone, "/a/x": api.ErrKind, "/x": api.ErrNone, "/a\x00": api.ErrName, "/" + string(make([]byte, 1024)): api.ErrFull} {
			before := all(t, w.d)
			n, e := Pieces(w.v, at)
			w.refuses(t, "Pieces "+at, want, e, before)
			if _, f := w.v.Read(at, 0, 9); n != 0 || f != want {
				t.Errorf("Pieces(%q): %d, Read: %d", at, n, f)
			}
		}
	}
}

// P5: a volume that was mounted may have nodes of the Old Format ahead of Cursor; it is sound behind each step, too.
func TestMigrateOthers(t *testing.T) {
	nodes := []laid{{pointers: []int{60, 61, 62}}, {pointers: row(70, 6, 2)}, {}, {pointers: row(90, 4, 2)}, {pointers: row(100, 40, 1)}, {pointers: []int{63}}, {}, {pointers: row(150, 96, 2)}}
	for _, cursor := range []int{0, 1, 2, 5, 8, 31, 32} {
		for _, old := range [][]int{{}, {0}, {3, 7}, {0, 1, 2, 3, 4, 5, 6, 7}} {
			w := build(t, api.Super{Size: 400, Format: 3, Job: 1, Cursor: cursor}, old, nodes...)
			if Left(w.v) != 33-cursor {
				t.Errorf("Left: %d", Left(w.v))
			}
			for last := false; !last; {
				left, was := Left(w.v), picture(w.v)
				var e api.Errno
				if last, e = Step(w.v); e != api.OK || Left(w.v) >= left || picture(w.v) != was {
					t.Fatalf("Step: %v %d, %d left of %d", last, e, Left(w.v), left)
				}
				w.lies(t, "Step")
			}
			if w.v.Super() != (api.Super{Size: 400, Format: 2}) {
				t.Errorf("Super: %v", w.v.Super())
			}
			w.v = mounted(t, w.d)
			w.holds(t)
		}
	}
}

// P5: likewise, where they are too many for one transaction.
func TestMigrateTooMany(t *testing.T) {
	nodes := []laid{{pointers: row(60, 9, 1)}}
	var old []int
	for n := range 25 {
		nodes = append(nodes, laid{pointers: row(70+8*n, 4, 2)})
		old = append(old, n+1)
	}
	w := build(t, api.Super{Size: 400, Format: 3, Job: 1, Cursor: 26}, old, nodes...)
	before := all(t, w.d)
	last, e := Step(w.v)
	w.refuses(t, fmt.Sprint("Step ", last), api.ErrArg, e, before)
	w.lies(t, "Step")
	w.holds(t)
}

// P20.3: Cursor says nothing to JobShrink, and to others where they go on.
func TestCursor(t *testing.T) {
	for format := 1; format <= 2; format++ {
		nodes := []laid{{pointers: []int{60, 61}}, {pointers: row(70, 3, 2)}, {pointers: row(180, 3, 2)}, {pointers: row(90, 5, 2)}}
		for _, cursor := range []int{0, 1, 2, 3, 4, 31, 32} {
			w := build(t, api.Super{Size: 200, Format: format, Job: 2, Goal: 150, Cursor: cursor}, nil, nodes...)
			w.finish(t)
			w.holds(t)
			w = build(t, api.Super{Size: 200, Format: format, Job: 3, Cursor: cursor}, nil, nodes...)
			if n := w.finish(t); n != max(1, 5-max(1, cursor)) {
				t.Errorf("Cursor %d: %d steps", cursor, n)
			}
			w.holds(t)
		}
	}
}

// P2: the same calls answer the same, and leave the same blocks.
func TestSameCalls(t *testing.T) {
	var first []string
	for turn := range 2 {
		w := some(t, 300, 200, 1)
		var list []string
		do := func(x ...any) { list = append(list, fmt.Sprint(x...)) }
		for _, job := range []int{2, 3, 1} {
			do(Start(w.v, job, []int{0, 0, 170, 0}[job]))
			for last := false; !last; {
				var e api.Errno
				last, e = Step(w.v)
				do(last, e, Left(w.v), w.v.Blocks())
			}
			do(Grow(w.v, 180+job*10))
			do(Pieces(w.v, "/a"))
		}
		do(all(t, w.d))
		if turn == 0 {
			first = list
		} else if !slices.Equal(first, list) {
			t.Error("the same calls leave other blocks")
		}
	}
}

// P3, P6, P7: rows of any calls, while any jobs go on: what is in a volume is what the calls have made, and what
// goes away gives its blocks back.
func TestRows(t *testing.T) {
	var ended [4]int
	for seed := range 12 {
		r := numbers(seed + 3)
		size := []int{110, 200, 300}[seed%3]
		w := begin(t, 480, size, 1+seed/3%2)
		for range 400 {
			switch k := r(20); {
			case k < 14:
				w.do(t, anyCall(r))
			case k == 14 && w.v.Super().Job == 0:
				w.startsAny(t, r)
			case k == 15 && r(4) == 0:
				w.d.Restart()
				w.v = mounted(t, w.d)
			case k == 16 && r(4) == 0 && w.v.Super().Job != 2 && w.v.Super().Size < size:
				w.grows(t, w.v.Super().Size+1+r(size-w.v.Super().Size))
			case k > 14:
				job := w.v.Super().Job
				if last, _ := w.step(t); last {
					ended[job]++
				}
			}
		}
		w.holds(t)
	}
	if min(ended[1], ended[2], ended[3]) == 0 {
		t.Errorf("%v jobs have ended", ended)
	}
}

// startsAny begins a job that may begin, if there is room.
func (w *world) startsAny(t *testing.T, r func(n int) int) {
	t.Helper()
	s := w.v.Super()
	used, _ := check.Used(w.v.Blocks())
	switch k := r(9); {
	case k == 0 && s.Format == 1:
		w.starts(t, 1, 0)
	case k < 6 && len(used)+16 < s.Size:
		w.starts(t, 2, len(used)+16+r(s.Size-len(used)-16))
	default:
		w.starts(t, 3, 0)
	}
}
