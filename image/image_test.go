package image

import (
	"bytes"
	"math"
	"slices"
	"testing"

	"drydock/api"
	"drydock/node"
)

// ends are numbers that are no place, size or number of anything.
func ends() []int {
	return []int{math.MinInt, math.MinInt32, -65536, -1, 1 << 16, math.MaxInt32, math.MaxInt}
}

// leaving is an empty volume in which these data blocks alone have their flags down.
func leaving(t *testing.T, size, format int, free ...int) *world {
	t.Helper()
	blocks := emptied(size, format)
	w := &world{blocks: blocks}
	for n := 59; n < size; n++ {
		if !slices.Contains(free, n) {
			w.mark(true, []int{n})
		}
	}
	return worldOf(t, blocks)
}

func refusesOpen(t *testing.T, what string, blocks [][]byte) {
	t.Helper()
	if m, e := Open(blocks); m != nil || e != api.ErrForm {
		t.Errorf("Open, %s: %v %d", what, m, e)
	}
}

// P17.1: all bytes of each volume that can be made.
func TestMake(t *testing.T) {
	for size := 64; size <= 480; size++ {
		for _, format := range []int{1, 2} {
			m, e := Make(size, format)
			if m == nil || e != api.OK {
				t.Fatalf("Make(%d, %d): %v %d", size, format, m, e)
			}
			blocks := emptied(size, format)
			w := &world{m, blocks, copied(blocks), copied(blocks)}
			w.holds(t)
			if m.Super() != (api.Super{Size: size, Format: format}) || m.Free() != size-59 || m.Changes() != nil {
				t.Fatalf("Make(%d, %d): %v, %d free, %v", size, format, m.Super(), m.Free(), m.Changes())
			}
		}
	}
}

// P17.1: the nodes of a volume that was made.
func TestMakeNodes(t *testing.T) {
	for _, format := range []int{1, 2} {
		w := empty(t, 100, format)
		w.m, _ = Make(100, format)
		x, pointers, own, e := w.m.Node(0)
		if !node.Same(x, api.Node{Kind: 2, Format: format, Links: 1}) || len(pointers) != 0 || len(own) != 0 || e != api.OK {
			t.Errorf("Node(0): %v %v %v %d", x, pointers, own, e)
		}
		for n := 1; n < 32; n++ {
			if x, pointers, own, e := w.m.Node(n); !node.Same(x, api.Node{}) || len(pointers) != 0 || len(own) != 0 || e != api.OK {
				t.Errorf("Node(%d): %v %v %v %d", n, x, pointers, own, e)
			}
		}
		w.nodes(t)
		w.data(t)
		w.take(t, 41)
		w.undo(t)
	}
}

// P17.1: wrong sizes, and wrong formats.
func TestMakeRefuses(t *testing.T) {
	refuses := func(size, format int) {
		if m, e := Make(size, format); m != nil || e != api.ErrArg {
			t.Errorf("Make(%d, %d): %v %d", size, format, m, e)
		}
	}
	for _, size := range append(ends(), 0, 1, 59, 63, 481, 64+1<<32) {
		for format := range 5 {
			refuses(size, format)
		}
	}
	for _, format := range append(ends(), 0, 3, 4, 1+1<<32) {
		for _, size := range []int{64, 100, 480} {
			refuses(size, format)
		}
	}
}

// full is a volume with some of everything, with each block of the log and of data another one.
func full(t *testing.T, size int) *world {
	t.Helper()
	w := empty(t, size, 1)
	for n := 19; n < size; n++ {
		w.blocks[n] = filled(7 * n)
	}
	w.blocks[1] = headOf(api.Head{At: 39, Seq: 1 << 30})
	w = worldOf(t, w.blocks)
	for n, x := range []api.Node{{Kind: 2, Format: 1, Links: 1, Size: 64}, {Kind: 1, Format: 2, Links: 1000, Size: 6144}, {Kind: 1, Format: 1, Links: 2}} {
		if w.store(t, 15*n, x, row(n, 60+10*n, 6)) != api.OK {
			t.Fatal("Store")
		}
	}
	w.store(t, 31, file(2), []int{61, 0, 63, 0, 65, 67, 69})
	w.setSuper(t, api.Super{Size: size, Format: 3, Job: 1, Cursor: 32})
	w.settle(t)
	return w
}

// P17.2: what is a volume's is opened, and is as it is.
func TestOpen(t *testing.T) {
	for _, size := range []int{90, 250, 480} {
		w := worldOf(t, full(t, size).blocks)
		w.holds(t)
		w.nodes(t)
		w.data(t)
		if w.m.Changes() != nil {
			t.Errorf("Changes: %v", w.m.Changes())
		}
	}
	for _, s := range []api.Super{{Size: 64, Format: 3, Job: 3, Cursor: 32, Goal: 480}, {Size: 64, Format: 1, Job: 2}, {Size: 64, Format: 2}} {
		blocks := emptied(64, 1)
		blocks[0] = superOf(s)
		worldOf(t, blocks).holds(t)
	}
	for _, h := range []api.Head{{Seq: 1}, {At: 39, Seq: 1 << 30}} {
		blocks := emptied(64, 1)
		blocks[1] = headOf(h)
		worldOf(t, blocks).holds(t)
	}
}

// P17.2: any flags are sound that are sealed; the log, data and maps are not looked at.
func TestOpenOfAnyData(t *testing.T) {
	next := numbers(5)
	for range 50 {
		blocks := emptied(480, 2)
		var f []byte
		for range 60 {
			f = append(f, byte(next(256)))
		}
		blocks[2] = sealed(f...)
		for n := 19; n < 480; n++ {
			blocks[n] = bytes.Repeat([]byte{byte(next(256))}, 64)
		}
		w := worldOf(t, blocks)
		w.holds(t)
		w.take(t, len(w.free()))
	}
	blocks := emptied(64, 1)
	copy(blocks[3][32:], halfOf(1, 1, 1, 0, 0, 0, 100, 1, 100, 1)) // pointers that are the same, and not there
	copy(blocks[4], halfOf(1, 2, 1, 0, 0, 0, 0, 60, 0, 1, 0, 0, 0, 0, 0, 0, 0, 0, 63))
	w := worldOf(t, blocks)
	w.nodes(t)
	for n := 1; n < 3; n++ {
		if x, p, own, e := w.m.Node(n); !node.Same(x, api.Node{}) || p != nil || own != nil || e != api.ErrForm {
			t.Errorf("Node(%d): %v %v %v %d", n, x, p, own, e)
		}
	}
}

// P17.2: as many blocks as the Size, each of Block bytes.
func TestOpenRefusesOtherBlocks(t *testing.T) {
	refusesOpen(t, "nil", nil)
	refusesOpen(t, "none", [][]byte{})
	whole := emptied(480, 1)
	for n := range 480 {
		refusesOpen(t, "too few", whole[:n])
		blocks := emptied(480, 1)
		for _, b := range [][]byte{nil, {}, blocks[n][:63], append(bytes.Clone(blocks[n]), 0), make([]byte, 128), blocks[n][:32]} {
			blocks[n] = b
			refusesOpen(t, "a block of another length", blocks)
		}
	}
	refusesOpen(t, "too many", append(whole, make([]byte, 64)))
	refusesOpen(t, "too many", append(emptied(64, 1), make([]byte, 64)))
	refusesOpen(t, "too few", append([][]byte{superOf(api.Super{Size: 63, Format: 1})}, whole[1:63]...))
	refusesOpen(t, "too many", append(append([][]byte{superOf(api.Super{Size: 481, Format: 1})}, whole[1:]...), make([]byte, 64)))
	refusesOpen(t, "very many", slices.Repeat(whole, 300))
}

// P17.2: each bit of Super, Head, flags and nodes tells; none of the log's and of data.
func TestOpenOfOtherBits(t *testing.T) {
	blocks := full(t, 90).blocks
	for n := range blocks {
		for bit := range 512 {
			blocks[n][bit/8] ^= 1 << (bit % 8)
			m, e := Open(blocks)
			if want := n >= 19; want != (e == api.OK) || want != (m != nil) {
				t.Fatalf("block %d, bit %d: %d", n, bit, e)
			}
			blocks[n][bit/8] ^= 1 << (bit % 8)
		}
	}
}

// P17.2: blocks that have their check sums, but are not sound.
func TestOpenRefuses(t *testing.T) {
	with := func(at int, b []byte) [][]byte {
		blocks := emptied(64, 1)
		blocks[at] = b
		return blocks
	}
	for _, s := range []api.Super{{}, {Format: 1}, {Size: 65, Format: 1}, {Size: 63, Format: 1}, {Size: 64}, {Size: 64, Format: 4}, {Size: 64, Format: 1, Job: 4}, {Size: 64, Format: 1, Cursor: 33}, {Size: 64, Format: 1, Goal: 481}} {
		refusesOpen(t, "Super", with(0, superOf(s)))
	}
	for _, h := range []api.Head{{}, {At: 40, Seq: 1}, {At: 0, Seq: 0}, {At: 0, Seq: 1<<30 + 1}} {
		refusesOpen(t, "Head", with(1, headOf(h)))
	}
	for at, b := range emptied(64, 1)[:19] {
		refusesOpen(t, "bytes 0", with(at, make([]byte, 64)))
		if at != 2 {
			refusesOpen(t, "flags elsewhere", with(at, sealed(1, 2, 3)))
		}
		if at < 2 {
			refusesOpen(t, "Super, Head", with(1-at, b))
		}
	}
	for n := range 32 {
		for _, half := range [][]byte{halfOf(3, 1, 1), halfOf(1), halfOf(0, 1), halfOf(0, 0, 1), halfOf(1, 1, 0), halfOf(1, 3, 1), halfOf(1, 1, 1, 0, 1, 24), halfOf(1, 1, 1, 0, 0, 0, 58), halfOf(1, 1, 1, 0, 0, 0, 224, 1), halfOf(1, 2, 1, 0, 0, 0, 0, 60)} {
			blocks := emptied(64, 1)
			copy(blocks[3+n/2][n%2*32:], half)
			refusesOpen(t, "a node", blocks)
		}
	}
}

// P17.2: Super and SetSuper, at the ends of each field.
func TestSetSuper(t *testing.T) {
	w := full(t, 100)
	good := api.Super{Size: 100, Format: 1}
	for _, set := range []struct {
		field       func(s *api.Super) *int
		least, most int
	}{
		{func(s *api.Super) *int { return &s.Size }, 100, 100},
		{func(s *api.Super) *int { return &s.Format }, 1, 3},
		{func(s *api.Super) *int { return &s.Job }, 0, 3},
		{func(s *api.Super) *int { return &s.Cursor }, 0, 32},
		{func(s *api.Super) *int { return &s.Goal }, 0, 480},
	} {
		for _, n := range append(ends(), -1, 0, 1, 2, 3, 4, 32, 33, 63, 64, 99, 100, 101, 480, 481) {
			s := good
			*set.field(&s) = n
			w.setSuper(t, s)
			if ok := n >= set.least && n <= set.most; ok != (w.m.Super() == s) {
				t.Errorf("SetSuper(%v): %v", s, w.m.Super())
			}
			w.setSuper(t, good)
		}
	}
	if list := w.m.Changes(); len(list) != 1 || list[0].At != 0 {
		t.Errorf("Changes: %v", list)
	}
	w.undo(t)
	if w.m.Changes() != nil || w.m.Super().Job != 1 {
		t.Errorf("Undo: %v, %v", w.m.Super(), w.m.Changes())
	}
}

// P17.2: Resize to each size: what comes is no change, but the Super is.
func TestResize(t *testing.T) {
	for _, from := range []int{64, 65, 200, 480} {
		for to := 64; to <= 480; to += 1 + to%13 {
			w := empty(t, from, 1)
			w.resize(t, to, many(max(0, to-from), 3)...)
			w.data(t)
			list := w.m.Changes()
			if from == to && list != nil || from != to && (len(list) != 1 || list[0].At != 0) {
				t.Fatalf("from %d to %d: %v", from, to, list)
			}
			if w.m.Super() != (api.Super{Size: to, Format: 1}) || w.m.Free() != to-59 || len(w.m.Blocks()) != to {
				t.Fatalf("from %d to %d: %v, %d free", from, to, w.m.Super(), w.m.Free())
			}
			w.undo(t)
			if w.m.Super().Size != from || w.m.Free() != from-59 {
				t.Fatalf("from %d to %d and back: %v", from, to, w.m.Super())
			}
		}
	}
}

// P17.2: wrong sizes; too few and too many blocks that come; blocks that are none.
func TestResizeRefuses(t *testing.T) {
	w := full(t, 100)
	w.setData(t, 70, filled(1))
	for _, size := range append(ends(), 0, 1, 59, 63, 481, 100+1<<32) {
		w.resize(t, size)
		w.resize(t, size, many(1, 0)...)
		w.resize(t, size, many(381, 0)...)
	}
	for _, size := range []int{64, 99, 100, 101, 102, 479, 480} {
		come := max(0, size-100)
		for _, n := range []int{0, 1, 2, 3, 379, 380, 381, 480} {
			if n != come {
				w.resize(t, size, many(n, 0)...)
			}
		}
		for i := range come {
			for _, b := range [][]byte{nil, {}, make([]byte, 63), make([]byte, 65), make([]byte, 128)} {
				more := many(come, 0)
				more[i] = b
				w.resize(t, size, more...)
			}
		}
	}
	w.resize(t, 480, slices.Repeat(many(1, 0), 100000)...)
	if w.m.Super().Size != 100 {
		t.Errorf("Size: %d", w.m.Super().Size)
	}
}

// P17.2, P17.5: what lies where blocks come counts, not what lay there when the volume was settled.
func TestResizeAndChanges(t *testing.T) {
	w := empty(t, 100, 2)
	w.setData(t, 90, filled(1))
	w.setData(t, 70, filled(2))
	w.resize(t, 80) // block 90 goes, and its change
	w.resize(t, 100, many(20, 400)...)
	if list := w.m.Changes(); len(list) != 1 || list[0].At != 70 {
		t.Errorf("Changes: %v", list)
	}
	w.setData(t, 85, make([]byte, 64)) // as it was when it was opened, but not as it lies there
	w.setData(t, 86, filled(5))
	w.setData(t, 86, filled(406))
	if list := w.m.Changes(); len(list) != 2 || list[1].At != 85 {
		t.Errorf("Changes: %v", list)
	}
	w.settle(t)
	w.resize(t, 64)
	w.resize(t, 480, many(416, 900)...)
	w.setData(t, 479, filled(0))
	w.undo(t)
	if w.m.Changes() != nil || len(w.m.Blocks()) != 100 {
		t.Errorf("Undo: %v, %d blocks", w.m.Changes(), len(w.m.Blocks()))
	}
	w.resize(t, 101, filled(1))
	w.settle(t)
	if w.m.Changes() != nil {
		t.Errorf("Settle: %v", w.m.Changes())
	}
	w.undo(t)
}

// P17.2: flags stay as they are, whichever blocks come and go.
func TestResizeAndFlags(t *testing.T) {
	w := empty(t, 100, 1)
	w.take(t, 41)
	w.resize(t, 80)
	w.resize(t, 120, many(40, 0)...)
	if n := w.m.Free(); n != 20 {
		t.Errorf("Free: %d", n)
	}
}

// P17.3: numbers of no node.
func TestNoNode(t *testing.T) {
	w := full(t, 100)
	for _, n := range append(ends(), -1, 32, 33, 480) {
		if x, pointers, own, e := w.m.Node(n); !node.Same(x, api.Node{}) || pointers != nil || own != nil || e != api.ErrArg {
			t.Errorf("Node(%d): %v %v %v %d", n, x, pointers, own, e)
		}
		for _, x := range []api.Node{{}, file(1), {Kind: 9}} {
			w.store(t, n, x, nil)
			w.store(t, n, x, []int{1})
		}
	}
	w.nodes(t)
}

// P17.3: each node's place, in both formats, and each Kind.
func TestEachNode(t *testing.T) {
	for n := range 32 {
		w := full(t, 200)
		for _, x := range []api.Node{{Kind: 1, Format: 1, Links: 1000, Size: 6144}, {Kind: 2, Format: 2, Links: 1, Size: 1}, {}, {Kind: 2, Format: 1, Links: 7}} {
			var pointers []int
			if x.Kind != 0 {
				pointers = []int{150, 0, 152, 0, 154, 156, 158}
			}
			if w.store(t, n, x, pointers) != api.OK {
				t.Fatalf("Store(%d, %v)", n, x)
			}
			w.nodes(t)
			y, _, _, _ := w.m.Node(n)
			if y.Kind != x.Kind || y.Format != x.Format || y.Links != x.Links || y.Size != x.Size {
				t.Errorf("Node(%d): %v, not %v", n, y, x)
			}
		}
	}
}

// P17.3: the bytes of a node, of a block of pointers and of one of extents.
func TestStoreBytes(t *testing.T) {
	w := leaving(t, 66, 1, 65)
	w.store(t, 3, api.Node{Kind: 1, Format: 1, Links: 2, Size: 257}, []int{60, 61, 0, 62, 63})
	if half := w.m.Blocks()[4][32:]; !bytes.Equal(half, halfOf(1, 1, 2, 0, 1, 1, 60, 0, 61, 0, 0, 0, 62, 0, 65)) {
		t.Errorf("node 3: %v", half)
	}
	if b, _ := w.m.Data(65); !bytes.Equal(b, sealed(63)) {
		t.Errorf("block 65: %v", b)
	}
	w.store(t, 3, api.Node{Kind: 1, Format: 2, Links: 2, Size: 257}, []int{60, 0, 61, 0, 62, 0, 63, 64})
	if half := w.m.Blocks()[4][32:]; !bytes.Equal(half, halfOf(1, 2, 2, 0, 1, 1, 0, 60, 0, 1, 2, 61, 0, 1, 4, 62, 0, 1, 65)) {
		t.Errorf("node 3: %v", half)
	}
	if b, _ := w.m.Data(65); !bytes.Equal(b, sealed(1, 0, 0, 0, 6, 63, 0, 2)) {
		t.Errorf("block 65: %v", b)
	}
	w.store(t, 3, api.Node{}, nil)
	if half := w.m.Blocks()[4][32:]; !bytes.Equal(half, halfOf()) || w.m.Free() != 6 {
		t.Errorf("node 3: %v, %d free", half, w.m.Free())
	}
}

// P17.3: the flags of all that a node had are down, of all that it has are up.
func TestStoreFlags(t *testing.T) {
	for _, format := range []int{1, 2} {
		w := empty(t, 480, format)
		for _, list := range [][]int{nil, {100}, {0, 0, 0, 0, 101}, row(30, 100, 66), {100, 0, 102, 0, 104, 0, 106, 0, 108}, row(0, 384, 96), row(95, 59, 1), {479}, make([]int, 96), nil} {
			for _, f := range []int{format, 3 - format} {
				if w.store(t, 31, file(f), list) != api.OK {
					t.Fatalf("Store of %v", list)
				}
				_, pointers, own, _ := w.m.Node(31)
				if n := 421 - w.m.Free(); n != len(own)+len(slices.DeleteFunc(pointers, func(p int) bool { return p == 0 })) {
					t.Errorf("%v: %d flags are up", list, n)
				}
			}
		}
	}
}

// P17.3: a map that can't be read, or that names what is not there, ahead of all that Store is given.
func TestNodeRefuses(t *testing.T) {
	refuses := func(w *world, what string, n int) {
		t.Helper()
		if x, pointers, own, e := w.m.Node(n); !node.Same(x, api.Node{}) || pointers != nil || own != nil || e != api.ErrForm {
			t.Errorf("%s: Node: %v %v %v %d", what, x, pointers, own, e)
		}
		for _, x := range []api.Node{{}, file(1), file(2), {Kind: 9}} {
			for _, list := range [][]int{nil, {1}, {60, 60}} {
				if e := w.m.Store(n, x, list); e != api.ErrForm {
					t.Errorf("%s: Store(%v, %v): %d", what, x, list, e)
				}
			}
		}
		w.holds(t)
	}
	for _, format := range []int{1, 2} {
		w := empty(t, 100, format)
		w.store(t, 5, file(format), []int{70, 0, 72, 0, 74, 0, 76, 0, 99})
		w.store(t, 6, file(format), row(1, 80, 3))
		w.settle(t)
		_, _, own, _ := w.m.Node(5)
		for _, b := range [][]byte{make([]byte, 64), filled(3), sealed(), sealed(70), sealed(1, 0, 0, 0, 9, 70, 0, 1)} {
			w.setData(t, own[0], b)
			refuses(w, "another block", 5)
			w.nodes(t)
			w.undo(t)
		}
		w.resize(t, 99)
		refuses(w, "no such pointer", 5)
		w.nodes(t)
		w.resize(t, 100, filled(1))
		w.nodes(t)
		w.resize(t, 83)
		w.nodes(t)
		w.resize(t, 82)
		refuses(w, "no such pointer", 6)
		w = leaving(t, 100, format, 90)
		w.store(t, 7, file(format), []int{60, 0, 61, 0, 62, 0, 64})
		w.resize(t, 91)
		w.nodes(t)
		if _, _, own, e := w.m.Node(7); !slices.Equal(own, []int{90}) || e != api.OK {
			t.Errorf("Node(7): %v %d", own, e)
		}
		w.resize(t, 90)
		refuses(w, "no such own block", 7)
	}
}

// P17.3: a node that is not sound, ahead of wrong pointers and of no room.
func TestStoreRefusesNodes(t *testing.T) {
	w := full(t, 100)
	w.take(t, len(w.free()))
	w.settle(t)
	for _, x := range []api.Node{
		{Kind: 3, Format: 1, Links: 1}, {Kind: -1, Format: 1, Links: 1}, {Kind: 256 + 1, Format: 1, Links: 1}, {Kind: 1, Links: 1}, {Kind: 1, Format: 3, Links: 1}, {Kind: 1, Format: -1, Links: 1},
		{Kind: 1, Format: 1}, {Kind: 2, Format: 1, Links: 1001}, {Kind: 2, Format: 1, Links: -1}, {Kind: 1, Format: 2, Links: 1, Size: -1}, {Kind: 1, Format: 2, Links: 1, Size: 6145},
		{Format: 1}, {Format: 2}, {Links: 1}, {Size: 1}, {Kind: math.MinInt, Format: 1, Links: 1}, {Kind: 1, Format: 1, Links: math.MaxInt}, {Kind: 1, Format: 1, Links: 1, Size: math.MaxInt},
	} {
		for _, list := range [][]int{nil, {1}, {80, 80}, make([]int, 97), {0, 0, 0, 0, 80, 0, 81, 0, 83, 0, 85}} {
			for _, n := range []int{0, 1, 31} {
				if e := w.m.Store(n, x, list); e != api.ErrForm {
					t.Errorf("Store(%d, %v, %v): %d", n, x, list, e)
				}
			}
		}
	}
	w.holds(t)
}

// P17.3: x's own map is of no meaning, and is not kept.
func TestStoreWithoutItsMap(t *testing.T) {
	wild := api.Node{Direct: [4]int{-1, 7, 1000, 60}, Single: -5, Double: 1 << 40, Extents: []api.Extent{{At: -1, Run: 5i}, {}, {}, {}, {}}, Chain: -9}
	w := full(t, 100)
	for _, x := range []api.Node{{}, file(1), {Kind: 2, Format: 2, Links: 3, Size: 5}, file(1), {}} {
		y := wild
		y.Kind, y.Format, y.Links, y.Size = x.Kind, x.Format, x.Links, x.Size
		var list []int
		if x.Kind != 0 {
			list = []int{60, 0, 62, 0, 64, 0, 66}
		}
		if w.store(t, 5, y, list) != api.OK {
			t.Errorf("Store of %v", y)
		}
		w.nodes(t)
	}
}

// P17.3: what are no pointers, or not there, or a Free node's.
func TestStoreRefusesPointers(t *testing.T) {
	w := full(t, 100)
	w.take(t, len(w.free()))
	w.settle(t)
	wrong := [][]int{{1}, {58}, {-1}, {100}, {101}, {479}, {480}, {math.MinInt}, {math.MaxInt}, {60 + 1<<32}, {70, 70}, {70, 0, 0, 0, 0, 70}, {0, 0, 58}, make([]int, 97), append(make([]int, 96), 70), append(row(0, 60, 5), 100)}
	for _, list := range wrong {
		for _, x := range []api.Node{file(1), file(2), {Kind: 2, Format: 1, Links: 1}} {
			for _, n := range []int{0, 1, 15} {
				if e := w.m.Store(n, x, list); e != api.ErrArg {
					t.Errorf("Store(%d, %v, %v): %d", n, x, list, e)
				}
			}
		}
	}
	for _, list := range append(wrong, []int{0}, []int{70}, row(0, 70, 9), make([]int, 96)) {
		for _, n := range []int{1, 15} {
			if e := w.m.Store(n, api.Node{}, list); e != api.ErrArg {
				t.Errorf("Store(%d, a Free one, %v): %d", n, list, e)
			}
		}
	}
	w.holds(t)
	w.store(t, 1, api.Node{}, []int{})
}

// P17.3: zeros behind the last pointer are no pointers of the node.
func TestStoreOfZeros(t *testing.T) {
	for _, format := range []int{1, 2} {
		for n := range 97 {
			w := empty(t, 70, format)
			if w.store(t, 1, file(format), make([]int, n)) != api.OK {
				t.Fatalf("Store of %d zeros", n)
			}
			if w.store(t, 1, file(format), append([]int{0, 60}, make([]int, min(n, 94))...)) != api.OK {
				t.Fatalf("Store of %d zeros", n)
			}
			if _, list, own, e := w.m.Node(1); !slices.Equal(list, []int{0, 60}) || len(own) != 0 || e != api.OK {
				t.Fatalf("Node: %v %v %d", list, own, e)
			}
		}
	}
}

// shape is pointers whose map needs so many blocks; of one format they are always of the same blocks.
func shape(format, need int) []int {
	var list []int
	if format == 2 {
		for i := range 2 + 14*need {
			list = append(list, 179-i)
		}
		return append(list, row(0, 100, 80-len(list))...)
	}
	for i, place := range [][]int{{0, 1, 2, 3}, {0, 1, 2, 4}, {0, 1, 2, 34}, {0, 1, 4, 34}, {0, 4, 34, 64}, {4, 34, 64, 94}}[need] {
		list = append(list, make([]int, place-len(list))...)
		list = append(list, 100+i)
	}
	return list
}

// gapped are so many pointers of which no two are one extent.
func gapped(count, first int) []int {
	var list []int
	for i := range count {
		list = append(list, first+2*i)
	}
	return list
}

// P17.3: just as many free blocks as are needed, fewer, and more.
func TestStoreRoom(t *testing.T) {
	for _, format := range []int{1, 2} {
		for need := range 6 {
			list := shape(format, need)
			for spare := range need + 3 {
				w := leaving(t, 480, format, gapped(spare, 450)...)
				e := w.store(t, 4, file(format), list)
				if spare < need && e != api.ErrSpace || spare >= need && (e != api.OK || w.m.Free() != spare-need) {
					t.Errorf("format %d, need %d, %d free: %d, %d free", format, need, spare, e, w.m.Free())
				}
			}
		}
	}
}

// P17.3: own blocks that it had count beside the free ones.
func TestStoreRoomBesideItsOwn(t *testing.T) {
	for _, format := range []int{1, 2} {
		for had := range 6 {
			w := leaving(t, 480, format, gapped(had, 450)...)
			w.store(t, 4, file(format), shape(format, had))
			for spare := range 6 {
				for need := range 6 {
					e := w.store(t, 4, file(format), shape(format, need))
					if need > had+spare && e != api.ErrSpace || need <= had+spare && (e != api.OK || w.m.Free() != had+spare-need) {
						t.Errorf("format %d, had %d, need %d, %d free: %d, %d free", format, had, need, spare, e, w.m.Free())
					}
					w.undo(t)
				}
				w.mark(false, []int{430 + 2*spare})
				w = worldOf(t, w.blocks)
			}
		}
	}
}

// P17.3: its own blocks are taken first, what it has not any more is free ahead of that.
func TestStoreTakesItsOwn(t *testing.T) {
	for _, format := range []int{1, 2} {
		for _, other := range []int{1, 2} {
			w := leaving(t, 200, format, 190, 60, 75)
			big := gapped(40, 100)
			w.store(t, 1, file(format), big)
			_, _, own, _ := w.m.Node(1)
			if w.m.Free() != 0 || len(own) != 3 {
				t.Fatalf("%d free, own %v", w.m.Free(), own)
			}
			w.store(t, 1, file(other), big)
			if _, _, now, _ := w.m.Node(1); len(now) != 3 || len(meeting(now, own)) != 3 {
				t.Errorf("own %v, not %v", now, own)
			}
			w.settle(t)
			w.store(t, 1, file(other), big) // the same again is no change
			if w.m.Changes() != nil {
				t.Errorf("Changes: %v", w.m.Changes())
			}
			w.store(t, 1, file(other), big[:20])
			_, _, now, _ := w.m.Node(1)
			if len(now) != needed(other, big[:20]) || len(meeting(now, own)) != len(now) || w.m.Free() != 23-len(now) {
				t.Errorf("own %v, not of %v; %d free", now, own, w.m.Free())
			}
			w.store(t, 1, file(other), nil)
			if w.m.Free() != 43 {
				t.Errorf("Free: %d", w.m.Free())
			}
		}
	}
}

// P17.3: without any free block a map may be laid where the node's pointers were.
func TestStoreTakesWhatItHad(t *testing.T) {
	w := leaving(t, 100, 2)
	w.store(t, 1, file(2), row(0, 60, 20))
	w.settle(t)
	if w.m.Free() != 0 || w.store(t, 1, file(2), gapped(10, 60)) != api.OK {
		t.Fatal("Store")
	}
	if _, _, own, _ := w.m.Node(1); len(own) != 1 || own[0] < 60 || own[0] > 79 || own[0]%2 == 0 {
		t.Errorf("own %v", own)
	}
	w.undo(t)
	// Each block is a pointer again: there is none left.
	if w.store(t, 1, file(2), append(gapped(10, 60), gapped(10, 61)...)) != api.ErrSpace {
		t.Error("Store of no room")
	}
}

// P17.3: a block that the node had of its own may be its pointer now, and the other way round.
func TestStoreSwapsItsOwn(t *testing.T) {
	w := leaving(t, 100, 2, 70)
	w.store(t, 1, file(2), gapped(5, 80))
	w.settle(t)
	if w.store(t, 1, file(2), append(gapped(4, 80), 70)) != api.OK { // block 88 is free now
		t.Fatal("Store")
	}
	if _, _, own, _ := w.m.Node(1); !slices.Equal(own, []int{88}) {
		t.Errorf("own %v", own)
	}
	w.undo(t)
	if w.store(t, 1, file(2), append(gapped(5, 80), 70)) != api.ErrSpace {
		t.Error("Store of no room")
	}
}

// P17.3: a pointer whose flag was down is no block for the map.
func TestStoreOfBlocksNotTaken(t *testing.T) {
	for _, format := range []int{1, 2} {
		w := empty(t, 64, format)
		if w.store(t, 1, file(format), []int{59, 0, 61, 0, 63, 0, 60}) != api.OK {
			t.Fatal("Store")
		}
		if _, _, own, _ := w.m.Node(1); !slices.Equal(own, []int{62}) {
			t.Errorf("own %v", own)
		}
		w.undo(t)
		if w.store(t, 1, file(format), []int{59, 0, 61, 0, 63, 62, 60}) != api.ErrSpace {
			t.Error("Store of no room")
		}
	}
}

// P17.3, P17.4: while a volume is made smaller, no block at or behind Goal is taken, not even one of the node's own.
func TestStoreAheadOfGoal(t *testing.T) {
	for _, format := range []int{1, 2} {
		w := leaving(t, 200, format, 180, 185, 190)
		w.store(t, 1, file(format), gapped(40, 60))
		w.settle(t)
		for _, goal := range []int{0, 59, 64, 180, 181, 186, 190, 191, 200, 480} {
			for job := range 4 {
				w.setSuper(t, api.Super{Size: 200, Format: format, Job: job, Goal: goal})
				e := w.store(t, 1, file(format), gapped(40, 60))
				if job != 2 && e != api.OK || job == 2 && (e == api.OK) != (goal > 190) {
					t.Errorf("job %d, goal %d: %d", job, goal, e)
				}
				w.undo(t)
			}
		}
		// As many others as are at or behind Goal, and the map lies ahead of it.
		for spare := range 5 {
			free := []int{170, 172, 173, 141}[:spare]
			w.mark(false, free)
			w = worldOf(t, w.blocks)
			for behind, goal := range []int{191, 190, 185, 180} {
				w.setSuper(t, api.Super{Size: 200, Format: format, Job: 2, Goal: goal})
				e := w.store(t, 1, file(format), gapped(40, 60))
				_, _, own, _ := w.m.Node(1)
				if (e == api.OK) != (len(free) >= behind) || e == api.OK && (len(meeting(own, free)) != behind || slices.Max(own) >= goal) {
					t.Errorf("%v free, goal %d: %d, own %v", free, goal, e, own)
				}
				w.undo(t)
			}
		}
	}
}

// P17.3: what is at or behind Goal may be a pointer all the same; its map lies ahead.
func TestStoreBehindGoal(t *testing.T) {
	for _, format := range []int{1, 2} {
		w := empty(t, 200, format)
		w.setSuper(t, api.Super{Size: 200, Format: format, Job: 2, Goal: 100})
		list := gapped(50, 99)
		if w.store(t, 1, file(format), list) != api.OK || w.m.Free() != 41-1-needed(format, list) {
			t.Errorf("Store: %d free", w.m.Free())
		}
		if _, _, own, _ := w.m.Node(1); slices.Max(own) >= 99 {
			t.Errorf("own %v", own)
		}
	}
}

// P17.4: each number of blocks of an empty volume, one run each.
func TestTake(t *testing.T) {
	for _, size := range []int{64, 100, 480} {
		for n := range size - 58 + 2 {
			w := empty(t, size, 1)
			list := w.take(t, n)
			if n <= size-59 && (len(list) != n || longest(list) != n || w.m.Free() != size-59-n) {
				t.Errorf("Take(%d): %v, %d free", n, list, w.m.Free())
			}
			for _, b := range list {
				if b < 59 || b >= size {
					t.Errorf("Take(%d): %d", n, b)
				}
			}
			w.undo(t)
		}
	}
}

// P17.4: numbers below 0, and more than are free.
func TestTakeRefuses(t *testing.T) {
	w := full(t, 100)
	for _, n := range append(ends(), -2, 101, 421, 480, 481, len(w.free())+1) {
		w.take(t, n)
	}
	w.take(t, len(w.free()))
	for _, n := range append(ends(), 0, 1, 2) {
		w.take(t, n)
	}
	w.undo(t)
}

// P17.4: one run where there is one, wherever it is; others where there is none.
func TestTakeOfGaps(t *testing.T) {
	next := numbers(9)
	for range 200 {
		w := empty(t, 64+next(60), 1)
		var list []int
		for n := 59; n < len(w.blocks); n++ {
			if next(3) == 0 {
				list = append(list, n)
			}
		}
		w.mark(true, list)
		w = worldOf(t, w.blocks)
		for n := range len(w.free()) + 2 {
			w.take(t, n)
			w.undo(t)
		}
		for range 20 {
			w.take(t, 1+next(5))
		}
	}
}

// P17.4: the flags of blocks that are none of data, or not there, are of no meaning to Take, and stay.
func TestTakeOfOtherFlags(t *testing.T) {
	for _, f := range [][]byte{nil, bytes.Repeat([]byte{255}, 60), append(make([]byte, 8), bytes.Repeat([]byte{255}, 52)...)} {
		blocks := emptied(80, 1)
		blocks[2] = sealed(f...)
		w := worldOf(t, blocks)
		w.holds(t)
		for n := range 24 {
			w.take(t, n)
			w.undo(t)
		}
	}
}

// P17.4: Goal, at each number, of each job, whatever the flags of other blocks than those of data.
func TestTakeAheadOfGoal(t *testing.T) {
	for _, low := range []byte{0, 255} {
		blocks := emptied(100, 1)
		blocks[2] = sealed(append(bytes.Repeat([]byte{low}, 7), low&7)...)
		w := worldOf(t, blocks)
		for goal := range 481 {
			for job := range 4 {
				w.setSuper(t, api.Super{Size: 100, Format: 1, Job: job, Goal: goal})
				want := 41
				if job == 2 {
					want = max(0, min(100, goal)-59)
				}
				if w.m.Free() != want {
					t.Fatalf("job %d, goal %d: %d free, not %d", job, goal, w.m.Free(), want)
				}
				w.take(t, want+1)
				w.take(t, want)
				w.undo(t)
			}
		}
	}
}

// P17.4: Data and SetData at each block, and of other lengths.
func TestData(t *testing.T) {
	w := full(t, 100)
	w.data(t)
	for n := -1; n < 482; n++ {
		for _, b := range [][]byte{filled(n + 1), make([]byte, 64), nil, {}, make([]byte, 63), make([]byte, 65)} {
			w.setData(t, n, b)
		}
	}
	w.data(t)
	for _, n := range ends() {
		w.setData(t, n, filled(1))
		if b, e := w.m.Data(n); b != nil || e != api.ErrRange {
			t.Errorf("Data(%d): %v %d", n, b, e)
		}
	}
	w.undo(t)
	w.data(t)
}

// P17.5: what is as it was is no change; the others rise by their numbers.
func TestChanges(t *testing.T) {
	w := full(t, 100)
	for _, n := range []int{99, 59, 75, 60, 98} {
		w.setData(t, n, filled(n+1))
	}
	w.setSuper(t, api.Super{Size: 100, Format: 1})
	w.store(t, 20, file(1), []int{0, 95})
	var ats []int
	for _, c := range w.m.Changes() {
		ats = append(ats, c.At)
	}
	if !slices.Equal(ats, []int{0, 2, 13, 59, 60, 75, 98, 99}) {
		t.Errorf("Changes: %v", ats)
	}
	b := full(t, 100).blocks
	w.setData(t, 99, b[99])
	w.store(t, 20, api.Node{}, nil)
	w.settle(t)
	if w.m.Changes() != nil {
		t.Errorf("Changes: %v", w.m.Changes())
	}
	w.setData(t, 99, filled(100))
	if list := w.m.Changes(); len(list) != 1 || list[0].At != 99 {
		t.Errorf("Changes: %v", list)
	}
	w.settle(t)
	w.settle(t)
	w.undo(t)
	w.undo(t)
	w.data(t)
}

// P17.5: Undo goes back to Open, Make or the last Settle, whatever was done.
func TestUndo(t *testing.T) {
	w := full(t, 100)
	first := w.m.Blocks()
	w.take(t, 5)
	w.store(t, 15, api.Node{}, nil)
	w.resize(t, 64)
	w.resize(t, 300, many(236, 1)...)
	w.setSuper(t, api.Super{Size: 300, Format: 2, Job: 3, Cursor: 5})
	w.take(t, 200)
	w.undo(t)
	if !same(w.m.Blocks(), first) {
		t.Error("Undo")
	}
	w.nodes(t)
	w.setData(t, 60, filled(1))
	w.settle(t)
	w.setData(t, 60, filled(2))
	w.undo(t)
	if b, _ := w.m.Data(60); !bytes.Equal(b, filled(1)) {
		t.Errorf("Data: %v", b)
	}
	m, _ := Make(64, 2)
	made := m.Blocks()
	m.Take(3)
	m.SetData(60, filled(1))
	m.Undo()
	if !same(m.Blocks(), made) || m.Changes() != nil || m.Free() != 5 {
		t.Errorf("Undo of what was made: %v", m.Changes())
	}
}

// R4: what is handed in is neither changed nor kept, spare room included.
func TestMemoryHandedIn(t *testing.T) {
	w := full(t, 100)
	roomy := func(b []byte) []byte { return append(bytes.Clone(b), 1, 2, 3)[:len(b)] }
	whole := func(b []byte) bool { return bytes.Equal(b[:len(b)+3][len(b):], []byte{1, 2, 3}) }
	blocks := append(copied(w.blocks), filled(9))[:100]
	for n, b := range blocks {
		blocks[n] = roomy(b)
	}
	m, _ := Open(blocks)
	data, more, list := roomy(filled(4)), append(many(3, 50), filled(7))[:3], []int{60, 0, 62, 0, 64, 0, 66, 5, 5}[:7]
	x := api.Node{Kind: 1, Format: 2, Links: 1, Extents: []api.Extent{{At: 5, Run: 6}}}
	for n := range more {
		more[n] = roomy(more[n])
	}
	if m.SetData(70, data) != 0 || m.Resize(103, more...) != 0 || m.Store(9, x, list) != 0 || m.Store(10, file(1), list) != 0 {
		t.Fatal("an error")
	}
	want := m.Blocks()
	if !same(blocks, w.blocks) || !bytes.Equal(blocks[:101][100], filled(9)) || !bytes.Equal(more[:4][3], filled(7)) || !same(more, many(3, 50)) {
		t.Error("blocks have changed")
	}
	for _, b := range append(append(slices.Clone(blocks), more...), data) {
		if !whole(b) {
			t.Errorf("spare room has changed: %v", b[:67])
		}
		clear(b[:67])
	}
	if !slices.Equal(list[:9], []int{60, 0, 62, 0, 64, 0, 66, 5, 5}) || x.Extents[0] != (api.Extent{At: 5, Run: 6}) {
		t.Errorf("%v %v have changed", list[:9], x)
	}
	clear(list)
	clear(blocks)
	clear(more)
	if !same(m.Blocks(), want) {
		t.Error("what was handed in is kept")
	}
	m.Undo()
	if !same(m.Blocks(), w.blocks) {
		t.Error("what was handed in is kept")
	}
}

// spoil writes over all of a list of bytes, spare room included.
func spoil(b []byte) {
	for i := range b[:cap(b)] {
		b[:cap(b)][i] ^= 255
	}
}

// R4: what is answered is new memory, each list of it, spare room included.
func TestMemoryAnswered(t *testing.T) {
	w := full(t, 100)
	w.setData(t, 70, filled(1))
	w.setData(t, 71, filled(2))
	want, list := w.m.Blocks(), w.m.Changes()
	blocks, again := w.m.Blocks(), w.m.Changes()
	for n, b := range blocks {
		spoil(b)
		for k := n + 1; k < len(blocks); k++ {
			if !bytes.Equal(blocks[k], want[k]) {
				t.Fatalf("blocks %d and %d share memory", n, k)
			}
		}
	}
	for n, c := range list {
		spoil(c.Data)
		for k := n + 1; k < len(list); k++ {
			if !bytes.Equal(list[k].Data, again[k].Data) {
				t.Fatalf("changes %d and %d share memory", n, k)
			}
		}
	}
	clear(blocks[:cap(blocks)])
	clear(list[:cap(list)])
	for n := 59; n < 100; n++ {
		b, _ := w.m.Data(n)
		spoil(b)
	}
	if !sameWrites(again, w.m.Changes()) || !same(want, w.blocks) {
		t.Error("answers share memory")
	}
	w.holds(t)
	for n := range 32 {
		a, p, own, _ := w.m.Node(n)
		b, q, ownToo, _ := w.m.Node(n)
		clear(p[:cap(p)])
		if !slices.Equal(own, ownToo) {
			t.Errorf("node %d: the lists of one answer share memory", n)
		}
		clear(own[:cap(own)])
		clear(a.Extents[:cap(a.Extents)])
		c, r, ownLast, _ := w.m.Node(n)
		if !node.Same(b, c) || !slices.Equal(q, r) || !slices.Equal(ownToo, ownLast) {
			t.Errorf("node %d: answers share memory", n)
		}
	}
	taken := w.take(t, 4)
	clear(taken[:cap(taken)])
	w.holds(t)
	w.nodes(t)
}

// answersNothing sees that an image of no volume answers ErrArg, and nothing.
func answersNothing(t *testing.T, m *Image) {
	t.Helper()
	for range 2 {
		if m.Super() != (api.Super{}) || m.Free() != 0 || m.Changes() != nil || m.Blocks() != nil {
			t.Error("it answers something")
		}
		for _, e := range []api.Errno{m.SetSuper(api.Super{}), m.SetSuper(api.Super{Size: 64, Format: 1}), m.Resize(64), m.Resize(64, many(64, 0)...), m.Resize(0), m.Resize(-1, nil)} {
			if e != api.ErrArg {
				t.Errorf("it answers %d", e)
			}
		}
		for _, n := range append(ends(), -1, 0, 1, 31, 32, 59, 63, 64) {
			x, pointers, own, e := m.Node(n)
			list, f := m.Take(n)
			b, g := m.Data(n)
			if !node.Same(x, api.Node{}) || pointers != nil || own != nil || list != nil || b != nil || e != api.ErrArg || f != api.ErrArg || g != api.ErrArg {
				t.Errorf("%d: %v %v %v %d, %v %d, %v %d", n, x, pointers, own, e, list, f, b, g)
			}
			for _, e := range []api.Errno{m.Store(n, api.Node{}, nil), m.Store(n, file(1), []int{60}), m.SetData(n, nil), m.SetData(n, filled(1))} {
				if e != api.ErrArg {
					t.Errorf("%d: it answers %d", n, e)
				}
			}
		}
		m.Settle()
		m.Undo()
	}
}

// R1: a nil Image; and one that neither Open nor Make has made.
func TestNoImage(t *testing.T) {
	answersNothing(t, nil)
	answersNothing(t, &Image{})
}
