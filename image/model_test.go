package image

import (
	"bytes"
	"slices"
	"testing"

	"drydock/api"
	"drydock/chain"
	"drydock/extent"
	"drydock/node"
	"drydock/spin"
	"drydock/tree"
)

// numbers is the same row of numbers for the same seed.
func numbers(seed uint32) func(n int) int {
	return func(n int) int {
		seed = seed*1664525 + 1013904223
		return int(seed>>8) % n
	}
}

// sumOf is the check sum of bytes, as it lies.
func sumOf(b []byte) []byte {
	sum := spin.Sum(b)
	return []byte{byte(sum), byte(sum >> 8), byte(sum >> 16), byte(sum >> 24)}
}

// sealed is a block of these bytes, 0 behind them, and the check sum.
func sealed(first ...byte) []byte {
	b := make([]byte, 64)
	copy(b[:60], first)
	copy(b[60:], sumOf(b[:60]))
	return b
}

// halfOf is half a block of these bytes, 0 behind them, and the check sum.
func halfOf(first ...byte) []byte {
	b := make([]byte, 32)
	copy(b[:28], first)
	copy(b[28:], sumOf(b[:28]))
	return b
}

// superOf and headOf take what is not sound, too.
func superOf(s api.Super) []byte {
	return sealed('D', 'R', 'Y', 'D', byte(s.Size), byte(s.Size>>8), byte(s.Format), byte(s.Job), byte(s.Cursor), 0, byte(s.Goal), byte(s.Goal>>8))
}

func headOf(h api.Head) []byte {
	return sealed('H', 'E', 'A', 'D', byte(h.At), 0, 0, 0, byte(h.Seq), byte(h.Seq>>8), byte(h.Seq>>16), byte(h.Seq>>24))
}

// filled is a block that is unlike those of other numbers.
func filled(n int) []byte {
	b := bytes.Repeat([]byte{byte(n + 1)}, 64)
	b[0], b[1], b[2] = byte(n>>16), byte(n>>8), byte(n)
	return b
}

// many are so many blocks that are all unlike.
func many(n, seed int) [][]byte {
	var list [][]byte
	for i := range n {
		list = append(list, filled(seed+i))
	}
	return list
}

func same(a, b [][]byte) bool { return slices.EqualFunc(a, b, bytes.Equal) }

func sameWrites(a, b []api.Write) bool {
	return slices.EqualFunc(a, b, func(x, y api.Write) bool { return x.At == y.At && bytes.Equal(x.Data, y.Data) })
}

// copied shares nothing with blocks.
func copied(blocks [][]byte) [][]byte {
	var list [][]byte
	for _, b := range blocks {
		list = append(list, bytes.Clone(b))
	}
	return list
}

// others are the writes that make one list of blocks of another one of as many.
func others(now, was [][]byte) []api.Write {
	var list []api.Write
	for n, b := range now {
		if !bytes.Equal(b, was[n]) {
			list = append(list, api.Write{At: n, Data: b})
		}
	}
	return list
}

// emptied is what Make has to make, byte by byte.
func emptied(size, format int) [][]byte {
	list := [][]byte{superOf(api.Super{Size: size, Format: format}), headOf(api.Head{Seq: 1})}
	list = append(list, sealed(255, 255, 255, 255, 255, 255, 255, 7))
	for n := range 16 {
		half := halfOf()
		if n == 0 {
			half = halfOf(2, byte(format), 1)
		}
		list = append(list, append(half, halfOf()...))
	}
	for len(list) < size {
		list = append(list, make([]byte, 64))
	}
	return list
}

// world is what an image has to be, by the document's words.
type world struct {
	m       *Image
	blocks  [][]byte
	lying   [][]byte
	settled [][]byte
}

func worldOf(t *testing.T, blocks [][]byte) *world {
	t.Helper()
	m, e := Open(blocks)
	if m == nil || e != api.OK {
		t.Fatalf("Open: %v %d", m, e)
	}
	return &world{m, copied(blocks), copied(blocks), copied(blocks)}
}

func empty(t *testing.T, size, format int) *world {
	t.Helper()
	return worldOf(t, emptied(size, format))
}

func (w *world) super() api.Super {
	b := w.blocks[0]
	return api.Super{Size: int(b[4]) + 256*int(b[5]), Format: int(b[6]), Job: int(b[7]), Cursor: int(b[8]), Goal: int(b[10]) + 256*int(b[11])}
}

func (w *world) up(n int) bool { return w.blocks[2][n/8]>>(n%8)&1 == 1 }

func (w *world) mark(up bool, list []int) {
	b := bytes.Clone(w.blocks[2][:60])
	for _, n := range list {
		if n == 0 {
			continue
		}
		b[n/8] &^= 1 << (n % 8)
		if up {
			b[n/8] |= 1 << (n % 8)
		}
	}
	w.blocks[2] = sealed(b...)
}

// end is where the blocks end that may be taken.
func (w *world) end() int {
	s := w.super()
	if s.Job == 2 && s.Goal < s.Size {
		return s.Goal
	}
	return s.Size
}

// free are the blocks that may be taken.
func (w *world) free() []int {
	var list []int
	for n := 59; n < w.end(); n++ {
		if !w.up(n) {
			list = append(list, n)
		}
	}
	return list
}

// longest is how many blocks the longest run of rising blocks has.
func longest(list []int) int {
	most, n := 0, 0
	for i, b := range list {
		n++
		if i == 0 || list[i-1] != b-1 {
			n = 1
		}
		most = max(most, n)
	}
	return most
}

func (w *world) node(n int) (api.Node, []int, []int, api.Errno) {
	none := api.Node{}
	if n < 0 || n > 31 {
		return none, nil, nil, api.ErrArg
	}
	x, e := node.Decode(w.blocks[3+n/2][n%2*32:][:32])
	if e != api.OK {
		panic("a node of the model is not sound")
	}
	var data []api.Write
	for at := 59; at < len(w.blocks); at++ {
		data = append(data, api.Write{At: at, Data: w.blocks[at]})
	}
	var pointers, own []int
	switch x.Format {
	case 1:
		pointers, own, e = tree.Read(x, data)
	case 2:
		var list []api.Extent
		list, own, e = chain.Read(x, data)
		pointers, _ = extent.To(list)
	}
	if e != api.OK || slices.ContainsFunc(pointers, func(p int) bool { return p >= len(w.blocks) }) {
		return none, nil, nil, api.ErrForm
	}
	return x, pointers, own, api.OK
}

// soundOf: is a node, without its map, sound?
func soundOf(x api.Node) bool {
	if x.Kind == 0 {
		return x.Format == 0 && x.Links == 0 && x.Size == 0
	}
	return (x.Kind == 1 || x.Kind == 2) && (x.Format == 1 || x.Format == 2) && x.Links >= 1 && x.Links <= 1000 && x.Size >= 0 && x.Size <= 6144
}

func pointersOf(list []int, size int) bool {
	seen := map[int]bool{}
	for _, n := range list {
		if n == 0 {
			continue
		}
		if seen[n] || n < 59 || n >= size {
			return false
		}
		seen[n] = true
	}
	return len(list) <= 96
}

// needed counts a map's blocks, page by page or extent by extent.
func needed(format int, list []int) int {
	if format == 1 {
		n := 0
		used := func(from, to int) bool {
			from, to = min(from, len(list)), min(to, len(list))
			return slices.ContainsFunc(list[from:to], func(p int) bool { return p != 0 })
		}
		for _, part := range [][2]int{{4, 34}, {34, 96}, {34, 64}, {64, 94}, {94, 96}} {
			if used(part[0], part[1]) {
				n++
			}
		}
		return n
	}
	extents := 0
	for i, p := range list {
		if p != 0 && (i == 0 || list[i-1] != p-1) {
			extents++
		}
	}
	n := 0
	for left := extents - 3; left > 0; left -= 14 {
		n++
	}
	return n
}

func trimmed(list []int) []int {
	for len(list) > 0 && list[len(list)-1] == 0 {
		list = list[:len(list)-1]
	}
	return list
}

// without leaves out of one list what is in the other.
func without(list, out []int) []int {
	return slices.DeleteFunc(slices.Clone(list), func(n int) bool { return slices.Contains(out, n) })
}

// meeting is what is in both.
func meeting(a, b []int) []int {
	return slices.DeleteFunc(slices.Clone(a), func(n int) bool { return !slices.Contains(b, n) })
}

// clone is a model without an image.
func (w *world) clone() *world {
	return &world{nil, copied(w.blocks), copied(w.lying), copied(w.settled)}
}

// room answers what Store's own blocks are chosen of: the node's own ones, and all.
func (w *world) room(n int, pointers []int) (own, all []int) {
	_, had, kept, _ := w.node(n)
	c := w.clone()
	c.mark(false, slices.Concat(had, kept))
	c.mark(true, pointers)
	return meeting(kept, c.free()), c.free()
}

func (w *world) storeError(n int, x api.Node, pointers []int) api.Errno {
	if _, _, _, e := w.node(n); e != api.OK {
		return e
	}
	if !soundOf(x) {
		return api.ErrForm
	}
	if x.Kind == 0 && len(pointers) > 0 || !pointersOf(pointers, len(w.blocks)) {
		return api.ErrArg
	}
	if _, all := w.room(n, pointers); x.Kind != 0 && needed(x.Format, pointers) > len(all) {
		return api.ErrSpace
	}
	return api.OK
}

// store holds Store against the words, and all behind it.
func (w *world) store(t *testing.T, n int, x api.Node, pointers []int) api.Errno {
	t.Helper()
	want := w.storeError(n, x, pointers)
	var ownRoom, all []int
	if want == api.OK {
		ownRoom, all = w.room(n, pointers)
	}
	if e := w.m.Store(n, x, pointers); e != want {
		t.Fatalf("Store(%d, %v, %v): %d, not %d", n, x, pointers, e, want)
	}
	if want == api.OK {
		w.stored(t, n, x, pointers, ownRoom, all)
	}
	w.holds(t)
	return want
}

// stored sees where the map's blocks were laid, which is free within bounds, and lays them there.
func (w *world) stored(t *testing.T, n int, x api.Node, pointers, ownRoom, all []int) {
	t.Helper()
	_, has, own, e := w.m.Node(n)
	if e != api.OK || !slices.Equal(has, trimmed(pointers)) {
		t.Fatalf("Node(%d): %v %d, not %v", n, has, e, pointers)
	}
	count := 0
	if x.Kind != 0 {
		count = needed(x.Format, pointers)
	}
	if len(own) != count || len(meeting(own, all)) != count {
		t.Fatalf("Store(%d): own blocks %v, not %d of %v", n, own, count, all)
	}
	if len(meeting(own, ownRoom)) != min(count, len(ownRoom)) {
		t.Fatalf("Store(%d): own blocks %v, not of %v first", n, own, ownRoom)
	}
	_, had, hadOwn, _ := w.node(n)
	w.mark(false, slices.Concat(had, hadOwn))
	w.mark(true, slices.Concat(pointers, own))
	w.lay(n, x, pointers, own)
}

// lay writes a node and its map.
func (w *world) lay(n int, x api.Node, pointers, own []int) {
	var mapped api.Node
	var list []api.Write
	switch x.Format {
	case 1:
		mapped, list, _ = tree.Plan(pointers, own)
	case 2:
		extents, _ := extent.From(pointers)
		mapped, list, _ = chain.Plan(extents, own)
	}
	mapped.Kind, mapped.Links, mapped.Size = x.Kind, x.Links, x.Size
	half, e := node.Encode(mapped)
	if e != api.OK {
		panic("a node of the model can't be written")
	}
	copy(w.blocks[3+n/2][n%2*32:], half)
	for _, b := range list {
		w.blocks[b.At] = b.Data
	}
}

func (w *world) take(t *testing.T, n int) []int {
	t.Helper()
	free := w.free()
	want := api.OK
	if n < 0 {
		want = api.ErrArg
	} else if n > len(free) {
		want = api.ErrSpace
	}
	list, e := w.m.Take(n)
	if e != want || e != api.OK && list != nil {
		t.Fatalf("Take(%d) of %v: %v %d, not %d", n, free, list, e, want)
	}
	if e == api.OK {
		sorted := slices.Clone(list)
		slices.Sort(sorted)
		if len(list) != n || len(slices.Compact(slices.Clone(sorted))) != n || len(meeting(list, free)) != n {
			t.Fatalf("Take(%d): %v of %v", n, list, free)
		}
		if longest(free) >= n && longest(sorted) != n {
			t.Fatalf("Take(%d): %v is no run, of %v", n, list, free)
		}
		w.mark(true, list)
	}
	w.holds(t)
	return list
}

func (w *world) setData(t *testing.T, n int, b []byte) {
	t.Helper()
	want := api.OK
	if n < 59 || n >= len(w.blocks) {
		want = api.ErrRange
	} else if len(b) != 64 {
		want = api.ErrArg
	}
	if e := w.m.SetData(n, b); e != want {
		t.Fatalf("SetData(%d, %d bytes): %d, not %d", n, len(b), e, want)
	}
	if want == api.OK {
		w.blocks[n] = bytes.Clone(b)
	}
	w.holds(t)
}

func (w *world) setSuper(t *testing.T, s api.Super) {
	t.Helper()
	within := func(n, least, most int) bool { return n >= least && n <= most }
	want := api.ErrForm
	if s.Size == len(w.blocks) && within(s.Format, 1, 3) && within(s.Job, 0, 3) && within(s.Cursor, 0, 32) && within(s.Goal, 0, 480) {
		want = api.OK
	}
	if e := w.m.SetSuper(s); e != want {
		t.Fatalf("SetSuper(%v): %d, not %d", s, e, want)
	}
	if want == api.OK {
		w.blocks[0] = superOf(s)
	}
	w.holds(t)
}

func (w *world) resize(t *testing.T, size int, more ...[]byte) {
	t.Helper()
	want := api.OK
	if size < 64 || size > 480 || len(more) != max(0, size-len(w.blocks)) {
		want = api.ErrArg
	}
	if slices.ContainsFunc(more, func(b []byte) bool { return len(b) != 64 }) {
		want = api.ErrArg
	}
	if e := w.m.Resize(size, more...); e != want {
		t.Fatalf("Resize(%d, %d blocks): %d, not %d", size, len(more), e, want)
	}
	if want == api.OK {
		w.blocks = append(w.blocks[:min(size, len(w.blocks))], copied(more)...)
		w.lying = append(w.lying[:min(size, len(w.lying))], copied(more)...)
		s := w.super()
		s.Size = size
		w.blocks[0] = superOf(s)
	}
	w.holds(t)
}

func (w *world) settle(t *testing.T) {
	t.Helper()
	w.m.Settle()
	w.lying, w.settled = copied(w.blocks), copied(w.blocks)
	w.holds(t)
}

func (w *world) undo(t *testing.T) {
	t.Helper()
	w.m.Undo()
	w.blocks, w.lying = copied(w.settled), copied(w.settled)
	w.holds(t)
}

// holds sees that all that can be asked of the image is as it has to be.
func (w *world) holds(t *testing.T) {
	t.Helper()
	if blocks := w.m.Blocks(); !same(blocks, w.blocks) {
		t.Fatalf("Blocks: others than %v", others(blocks, w.blocks))
	}
	if list := w.m.Changes(); !sameWrites(list, others(w.blocks, w.lying)) {
		t.Fatalf("Changes: %v, not %v", list, others(w.blocks, w.lying))
	}
	if s := w.m.Super(); s != w.super() {
		t.Fatalf("Super: %v, not %v", s, w.super())
	}
	if n := w.m.Free(); n != len(w.free()) {
		t.Fatalf("Free: %d, not %d", n, len(w.free()))
	}
}

// nodes sees that all nodes are read as they have to be.
func (w *world) nodes(t *testing.T) {
	t.Helper()
	for n := -1; n < 33; n++ {
		x, pointers, own, e := w.node(n)
		y, p, o, f := w.m.Node(n)
		if !node.Same(x, y) || !slices.Equal(p, pointers) || !slices.Equal(o, own) || e != f {
			t.Fatalf("Node(%d): %v %v %v %d, not %v %v %v %d", n, y, p, o, f, x, pointers, own, e)
		}
	}
}

// data sees that all blocks of data are answered.
func (w *world) data(t *testing.T) {
	t.Helper()
	for n := -1; n < 482; n++ {
		b, e := w.m.Data(n)
		if n < 59 || n >= len(w.blocks) {
			if b != nil || e != api.ErrRange {
				t.Fatalf("Data(%d): %v %d", n, b, e)
			}
			continue
		}
		if !bytes.Equal(b, w.blocks[n]) || e != api.OK {
			t.Fatalf("Data(%d): %v %d, not %v", n, b, e, w.blocks[n])
		}
	}
}

// file is a node of a file, without its map.
func file(format int) api.Node { return api.Node{Kind: 1, Format: format, Links: 1} }

// scattered are pointers of which so many are not 0, at places of the file
// that begin with from, in blocks that are there; fewer, if there are not as many.
func scattered(next func(int) int, w *world, count, from int) []int {
	list := make([]int, 96)
	for range count {
		n := 59 + next(len(w.blocks)-59)
		if next(8) == 0 || w.up(n) && next(6) > 0 || slices.Contains(list, n) {
			continue
		}
		list[min(95, from+next(96-from))] = n
	}
	return list
}

// row are pointers one behind the other, from a block and a place of the file on.
func row(place, first, count int) []int {
	list := make([]int, place)
	for i := range count {
		list = append(list, first+i)
	}
	return list
}

// turn does one call of a long row, whichever the numbers choose.
func (w *world) turn(t *testing.T, next func(int) int) {
	size := len(w.blocks)
	switch next(14) {
	case 0, 1, 2:
		list := scattered(next, w, next(40), next(96))
		w.store(t, next(6), file(1+next(2)), list[:len(trimmed(list))+next(97-len(trimmed(list)))])
	case 3:
		_, list, _, _ := w.node(next(6))
		w.store(t, next(6), file(1+next(2)), list)
	case 4:
		n := next(6)
		_, list, _, _ := w.node(n)
		w.store(t, n, file(1+next(2)), list[:next(len(list)+1)])
	case 5:
		w.store(t, next(6), api.Node{}, nil)
	case 6, 7:
		w.take(t, next(len(w.free())+2))
	case 8:
		w.setData(t, 59+next(size-58), filled(next(1000)))
	case 9:
		s := w.super()
		s.Job, s.Goal = next(4), 50+next(size)
		w.setSuper(t, s)
	case 10:
		to := 64 + next(80)
		w.resize(t, to, many(max(0, to-size), next(1000))...)
	case 11:
		w.store(t, next(33), api.Node{Kind: next(4), Format: next(4), Links: next(3), Size: next(6200)}, scattered(next, w, next(9), 0)[:next(40)])
	case 12:
		w.settle(t)
	case 13:
		w.undo(t)
	}
}

// P17.2 to P17.5: long rows of calls, at volumes of little room.
func TestLongRows(t *testing.T) {
	for seed := range 300 {
		next := numbers(uint32(seed))
		w := empty(t, 64+next(80), 1+next(2))
		for i := range 120 {
			w.turn(t, next)
			if i%10 == 0 {
				w.nodes(t)
			}
		}
		w.data(t)
	}
}

// wild is a volume whose nodes are sound, and whose maps are whatever the
// numbers choose: of few blocks, so that they meet, and of some that are not there.
func wild(t *testing.T, next func(int) int) *world {
	t.Helper()
	blocks := emptied(64+next(8), 1)
	data := func() int { return 59 + next(len(blocks)-58) }
	some := func() int { return data() * (1 - next(3)/2) }
	for n := range 8 {
		x := api.Node{Kind: 1, Format: 1 + next(2), Links: 1}
		if x.Format == 1 {
			x.Direct, x.Single, x.Double = [4]int{some(), some(), some(), some()}, some()*next(2), some()*next(2)
		} else {
			for at := next(3); len(x.Extents) < next(6) && len(x.Extents) < 3; at += 2 {
				x.Extents = append(x.Extents, api.Extent{At: at, Run: complex(float64(data()), 1)})
			}
			x.Chain = some() * (len(x.Extents) / 3)
		}
		if half, e := node.Encode(x); e == api.OK {
			copy(blocks[3+n/2][n%2*32:], half)
		}
	}
	for n := 59; n < len(blocks); n++ {
		if next(2) == 0 {
			blocks[n] = sealed(byte(some()), 0, byte(some()))
			continue
		}
		blocks[n] = sealed(1, 0, byte(some()*next(2)), 0, byte(10+next(9)), byte(data()), 0, 1)
	}
	w := worldOf(t, blocks)
	for range next(9) {
		w.mark(true, []int{59 + next(len(blocks)-59)})
	}
	return worldOf(t, w.blocks)
}

// P17.3: maps of any numbers, of nodes that have blocks together, and flags that do not tell of them.
func TestWildMaps(t *testing.T) {
	for seed := range 1500 {
		next := numbers(uint32(seed))
		w := wild(t, next)
		w.nodes(t)
		for range 12 {
			switch n := next(8); next(4) {
			case 0:
				_, list, _, _ := w.node(next(8))
				w.store(t, n, file(1+next(2)), list)
			case 1:
				w.store(t, n, api.Node{}, nil)
			case 2:
				w.take(t, next(4))
			case 3:
				w.store(t, n, file(1+next(2)), scattered(next, w, 9, 0))
			}
		}
		w.nodes(t)
	}
}

// P2, R5: the same calls answer the same, whatever was done with other images.
func TestSameInSameOut(t *testing.T) {
	for seed := range 20 {
		a, b := empty(t, 100, 1), empty(t, 100, 1)
		x, y, z := numbers(uint32(seed)), numbers(uint32(seed)), numbers(uint32(seed+1))
		other := empty(t, 90, 2)
		for range 100 {
			a.turn(t, x)
			other.turn(t, z)
			b.turn(t, y)
			if !same(a.m.Blocks(), b.m.Blocks()) {
				t.Fatalf("seed %d: the blocks are others", seed)
			}
		}
	}
}
