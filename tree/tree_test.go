package tree

import (
	"bytes"
	"math"
	"slices"
	"testing"

	"drydock/api"
	"drydock/spin"
)

// sealed is a block of these bytes, 0 behind them, and the check sum.
func sealed(first ...byte) []byte {
	b := make([]byte, 64)
	copy(b[:60], first)
	sum := spin.Sum(b[:60])
	b[60], b[61], b[62], b[63] = byte(sum), byte(sum>>8), byte(sum>>16), byte(sum>>24)
	return b
}

// blockOf lays pointers byte by byte; of numbers that do not fit, their last two bytes.
func blockOf(pointers ...int) []byte {
	var b []byte
	for _, p := range pointers {
		b = append(b, byte(p), byte(p>>8))
	}
	return sealed(b...)
}

func isData(n int) bool { return n >= 59 && n <= 479 }

// areApart holds every two numbers against each other.
func areApart(list []int) bool {
	for i, n := range list {
		if n != 0 && (!isData(n) || slices.Contains(list[:i], n)) {
			return false
		}
	}
	return true
}

// pageOf says in which block of pointers the k-th one lies, and at which place: block -2 is the node, -1 Single, others are those under Double.
func pageOf(k int) (block, at int) {
	switch {
	case k < 4:
		return -2, k
	case k < 34:
		return -1, k - 4
	}
	return (k - 34) / 30, (k - 34) % 30
}

// used says which blocks of pointers are needed: Single, Double, those under it, whose order is that of fresh.
func used(pointers []int) (one, two bool, under [4]bool) {
	for k, p := range pointers {
		block, _ := pageOf(k)
		switch {
		case p == 0:
		case block == -1:
			one = true
		case block >= 0:
			two, under[block] = true, true
		}
	}
	return one, two, under
}

func needed(pointers []int) (int, api.Errno) {
	if len(pointers) > 96 || !areApart(pointers) {
		return 0, api.ErrArg
	}
	one, two, under := used(pointers)
	n := 0
	for _, b := range append(under[:], one, two) {
		if b {
			n++
		}
	}
	return n, api.OK
}

// planned lays pointer by pointer.
func planned(pointers, fresh []int) (api.Node, []api.Write, api.Errno) {
	need, e := needed(pointers)
	if e != api.OK {
		return api.Node{}, nil, e
	}
	if len(fresh) < need {
		return api.Node{}, nil, api.ErrSpace
	}
	fresh = fresh[:need]
	if slices.Contains(fresh, 0) || !areApart(append(slices.Clone(pointers), fresh...)) {
		return api.Node{}, nil, api.ErrArg
	}
	n := api.Node{Format: 1}
	one, two, under := used(pointers)
	pages := map[int]*[30]int{}
	var order []int
	add := func() int {
		at := fresh[len(order)]
		order = append(order, at)
		pages[at] = &[30]int{}
		return at
	}
	if one {
		n.Single = add()
	}
	if two {
		n.Double = add()
	}
	for i, there := range under {
		if there {
			pages[n.Double][i] = add()
		}
	}
	for k, p := range pointers {
		switch block, at := pageOf(k); {
		case p == 0:
		case block == -2:
			n.Direct[at] = p
		case block == -1:
			pages[n.Single][at] = p
		default:
			pages[pages[n.Double][block]][at] = p
		}
	}
	var blocks []api.Write
	for _, at := range order {
		blocks = append(blocks, api.Write{At: at, Data: blockOf(pages[at][:]...)})
	}
	return n, blocks, api.OK
}

// pointersOf reads the first block of that number by the document's words; false, if it is none of pointers.
func pointersOf(at int, blocks []api.Write) ([]int, bool) {
	for _, w := range blocks {
		if w.At != at {
			continue
		}
		if len(w.Data) != 64 || !bytes.Equal(w.Data, sealed(w.Data[:60]...)) {
			return nil, false
		}
		var list []int
		some := false
		for i := 0; i < 60; i += 2 {
			p := int(w.Data[i]) + 256*int(w.Data[i+1])
			if p != 0 && !isData(p) {
				return nil, false
			}
			some = some || p != 0
			list = append(list, p)
		}
		return list, some
	}
	return nil, false
}

// pagesOf reads all the blocks of pointers that these numbers name, and 30 zeros for each 0.
func pagesOf(numbers []int, blocks []api.Write) (all, own []int, ok bool) {
	for _, at := range numbers {
		if at == 0 {
			all = append(all, make([]int, 30)...)
			continue
		}
		list, ok := pointersOf(at, blocks)
		if !ok {
			return nil, nil, false
		}
		all, own = append(all, list...), append(own, at)
	}
	return all, own, true
}

func readOf(n api.Node, blocks []api.Write) ([]int, []int, api.Errno) {
	if n.Format != 1 {
		return nil, nil, api.ErrKind
	}
	first, own, ok := pagesOf([]int{n.Single}, blocks)
	names, more, okToo := pagesOf([]int{n.Double}, blocks)
	if !ok || !okToo {
		return nil, nil, api.ErrForm
	}
	last, most, ok := pagesOf(names, blocks)
	all := slices.Concat(n.Direct[:], first, last)
	own = slices.Concat(own, more, most)
	if !ok || !areApart(append(slices.Clone(all), own...)) {
		return nil, nil, api.ErrForm
	}
	for i, at := range names {
		if i >= 3 && at != 0 {
			return nil, nil, api.ErrForm
		}
	}
	end := 0
	for k, p := range all {
		if p != 0 {
			end = k + 1
		}
	}
	if end > 96 {
		return nil, nil, api.ErrForm
	}
	return all[:end], own, api.OK
}

// ints are numbers round all ends of what is sound, those that look sound when they are cut to fewer bytes, and the ends of what an int is.
func ints() []int {
	return []int{
		math.MinInt, math.MinInt + 1, math.MinInt32, -65535, -480, -59, -1, 0, 1, 2, 3, 4, 30, 57, 58, 59, 60, 95, 96, 97, 255, 256, 257, 258, 478, 479, 480, 481, 511, 512,
		65535, 65536, 65536 + 59, 65536 + 300, 1<<24 + 60, math.MaxInt32, 1 << 32, 1<<32 + 300, math.MaxInt - 1, math.MaxInt,
	}
}

// numbers answers the same numbers each time.
func numbers(seed uint32) func(below int) int {
	return func(below int) int {
		seed = seed*1664525 + 1013904223
		return int(seed>>8) % below
	}
}

// shuffled are all data blocks, each once.
func shuffled(next func(int) int) []int {
	var list []int
	for n := 59; n < 480; n++ {
		list = append(list, n)
	}
	for i := range list {
		k := i + next(len(list)-i)
		list[i], list[k] = list[k], list[i]
	}
	return list
}

// some are so many numbers from a first one on, going down.
func some(first, count int) []int {
	var list []int
	for i := range count {
		list = append(list, first-i)
	}
	return list
}

func equalWrites(a, b []api.Write) bool {
	return slices.EqualFunc(a, b, func(x, y api.Write) bool { return x.At == y.At && bytes.Equal(x.Data, y.Data) })
}

// sameNode takes a node as nothing but Format and the map, as Plan's is.
func sameNode(a, b api.Node) bool {
	return a.Kind == b.Kind && a.Format == b.Format && a.Links == b.Links && a.Size == b.Size && a.Direct == b.Direct &&
		a.Single == b.Single && a.Double == b.Double && len(a.Extents) == 0 && len(b.Extents) == 0 && a.Chain == b.Chain
}

func copied(blocks []api.Write) []api.Write {
	var all []api.Write
	for _, w := range blocks {
		all = append(all, api.Write{At: w.At, Data: bytes.Clone(w.Data)})
	}
	return all
}

func zeros(list []int) []int {
	for len(list) > 0 && list[len(list)-1] == 0 {
		list = list[:len(list)-1]
	}
	return list
}

func needs(t *testing.T, pointers []int) {
	t.Helper()
	n, e := Need(pointers)
	if want, f := needed(pointers); n != want || e != f {
		t.Fatalf("Need(%v): %d %d, not %d %d", pointers, n, e, want, f)
	}
}

// plans holds Need, Plan, and Read of what was planned against the words.
func plans(t *testing.T, pointers, fresh []int) {
	t.Helper()
	needs(t, pointers)
	n, blocks, e := Plan(pointers, fresh)
	want, wanted, f := planned(pointers, fresh)
	if !sameNode(n, want) || !equalWrites(blocks, wanted) || e != f {
		t.Fatalf("Plan(%v, %v): %v %v %d, not %v %v %d", pointers, fresh, n, blocks, e, want, wanted, f)
	}
	if e != api.OK {
		if blocks != nil {
			t.Fatalf("Plan(%v, %v): beside %d stands %v", pointers, fresh, e, blocks)
		}
		return
	}
	again, own, e := Read(n, blocks)
	if e != api.OK || !slices.Equal(again, zeros(pointers)) || !slices.Equal(own, fresh[:len(blocks)]) {
		t.Fatalf("Read of Plan(%v, %v): %v %v %d", pointers, fresh, again, own, e)
	}
}

func reads(t *testing.T, n api.Node, blocks []api.Write) api.Errno {
	t.Helper()
	pointers, own, e := Read(n, blocks)
	want, wanted, f := readOf(n, blocks)
	if !slices.Equal(pointers, want) || !slices.Equal(own, wanted) || e != f {
		t.Fatalf("Read(%v, %v): %v %v %d, not %v %v %d", n, blocks, pointers, own, e, want, wanted, f)
	}
	if e != api.OK && (pointers != nil || own != nil) {
		t.Fatalf("Read(%v, %v): beside %d stand %v %v", n, blocks, e, pointers, own)
	}
	return e
}

func readsNot(t *testing.T, n api.Node, blocks []api.Write) {
	t.Helper()
	if e := reads(t, n, blocks); e != api.ErrForm {
		t.Fatalf("Read(%v, %v): %d", n, blocks, e)
	}
}

// edges are the first and last pointers of the node, of each block of pointers, and of a file.
func edges() []int { return []int{0, 3, 4, 5, 33, 34, 35, 63, 64, 93, 94, 95} }

// someFiles are pointers with all blocks of pointers, with few, and with none.
func someFiles() [][]int {
	hole := some(479, 96)
	clear(hole[64:94])
	far := make([]int, 96)
	far[95] = 59
	return [][]int{nil, {0}, {59}, {0, 0, 0, 479}, some(200, 4), some(300, 5), some(257, 34), some(258, 35), some(400, 65), some(479, 96), some(154, 96), hole, far, make([]int, 96)}
}

// allPages is a file with all blocks of pointers.
func allPages() (api.Node, []api.Write) {
	n, blocks, _ := planned(some(479, 96), []int{300, 301, 302, 303, 304})
	return n, blocks
}

// P11.2: bytes written out, check sums too.
func TestBytes(t *testing.T) {
	pointers := make([]int, 96)
	for k, p := range map[int]int{0: 59, 3: 60, 4: 257, 6: 256, 33: 61, 34: 300, 63: 301, 95: 479} {
		pointers[k] = p
	}
	single, double, first, last := make([]byte, 64), make([]byte, 64), make([]byte, 64), make([]byte, 64)
	copy(single, []byte{1, 1, 0, 0, 0, 1})
	copy(single[58:], []byte{61, 0, 109, 161, 93, 13})
	copy(double, []byte{2, 1, 0, 0, 71})
	copy(double[60:], []byte{58, 99, 212, 18})
	copy(first, []byte{44, 1})
	copy(first[58:], []byte{45, 1, 225, 208, 130, 69})
	copy(last, []byte{0, 0, 223, 1})
	copy(last[60:], []byte{60, 220, 24, 128})
	want := []api.Write{{At: 478, Data: single}, {At: 70, Data: double}, {At: 258, Data: first}, {At: 71, Data: last}}
	n, blocks, e := Plan(pointers, []int{478, 70, 258, 71, 0, -1})
	if e != api.OK || !sameNode(n, api.Node{Format: 1, Direct: [4]int{59, 0, 0, 60}, Single: 478, Double: 70}) || !equalWrites(blocks, want) {
		t.Errorf("Plan: %v %v %d", n, blocks, e)
	}
	again, own, e := Read(n, want)
	if e != api.OK || !slices.Equal(again, pointers) || !slices.Equal(own, []int{478, 70, 258, 71}) {
		t.Errorf("Read: %v %v %d", again, own, e)
	}
	if n, e := Need(pointers); n != 4 || e != api.OK {
		t.Errorf("Need: %d %d", n, e)
	}
}

// P11.1: each pointer alone, every length, and one more than a file may have.
func TestNeed(t *testing.T) {
	for size := range 100 {
		needs(t, make([]int, size))
		needs(t, some(479, size))
		needs(t, append(make([]int, size), 77))
		needs(t, append(make([]int, size), 77, 0, 0, 0))
		needs(t, append(some(479, size), 479))
	}
	needs(t, nil)
	needs(t, make([]int, 100000))
	needs(t, some(479, 421))
	needs(t, append([]int{5}, make([]int, 100000)...))
}

// P11.1, P11.2: every choice of pointers at the edges.
func TestEdges(t *testing.T) {
	places := edges()
	for choice := range 1 << len(places) {
		pointers := make([]int, 96)
		for i, k := range places {
			if choice>>i&1 != 0 {
				pointers[k] = 479 - 3*i
			}
		}
		plans(t, pointers, []int{100, 99, 300, 256, 59})
		plans(t, zeros(pointers), []int{59, 60, 61, 62, 63, 64})
	}
}

// P11.1, P11.2: each number in each place.
func TestPointers(t *testing.T) {
	for _, file := range someFiles() {
		for k := range file {
			for _, n := range ints() {
				pointers := slices.Clone(file)
				pointers[k] = n
				plans(t, pointers, []int{63, 62, 420, 421, 422})
			}
		}
	}
}

// P11.1, P11.2: the same pointer twice, wherever.
func TestPointersTwice(t *testing.T) {
	for i := range 96 {
		for k := range 96 {
			pointers := some(400, 96)
			pointers[i] = pointers[k]
			plans(t, pointers, some(479, 5))
			pointers = make([]int, 96)
			pointers[i], pointers[k] = 100, 100
			plans(t, pointers, some(479, 5))
		}
	}
}

// P11.2: fresh that are too few, just enough, and more, of which those behind are not looked at.
func TestFresh(t *testing.T) {
	for _, pointers := range append(someFiles(), some(479, 97), []int{58}, []int{60, 60}) {
		for size := range 8 {
			for _, behind := range [][]int{nil, {0}, {-1}, {480}, {70}, {479}, {math.MaxInt, math.MinInt}} {
				plans(t, pointers, append(some(76, size), behind...))
			}
		}
		plans(t, pointers, nil)
		plans(t, pointers, []int{0})
		plans(t, pointers, []int{-1, 500})
		plans(t, pointers, []int{70, 70})
		plans(t, pointers, slices.Repeat([]int{70}, 5))
		plans(t, pointers, append(some(76, 5), make([]int, 100000)...))
	}
}

// P11.2: each number in each place of fresh, and those of pointers and of the others of fresh.
func TestFreshNumbers(t *testing.T) {
	for _, pointers := range someFiles() {
		for i := range 7 {
			for _, n := range slices.Concat(ints(), pointers, some(379, 7)) {
				fresh := some(379, 7)
				fresh[i] = n
				plans(t, pointers, fresh)
			}
		}
	}
}

// P11.2, P11.3: pointers with holes, over all data blocks.
func TestPlansInTurn(t *testing.T) {
	next := numbers(11)
	for range 5000 {
		list := shuffled(next)
		pointers := list[:next(98)]
		fresh := slices.Clone(list[len(pointers):][:next(7)])
		for range next(200) {
			if len(pointers) > 0 {
				from := next(len(pointers))
				clear(pointers[from:min(from+next(40), len(pointers))])
			}
		}
		if len(fresh) > 0 && next(8) == 0 {
			fresh[next(len(fresh))] = list[next(120)]
		}
		plans(t, pointers, fresh)
	}
}

// P11.3: formats that are not Old, whatever else there is: ErrKind.
func TestKind(t *testing.T) {
	for _, format := range ints() {
		for _, blocks := range []bool{false, true} {
			n, list := allPages()
			n.Format = format
			if !blocks {
				list = nil
			}
			want := api.ErrKind
			if format == 1 && blocks {
				want = api.OK
			} else if format == 1 {
				want = api.ErrForm
			}
			if e := reads(t, n, list); e != want {
				t.Errorf("Read of format %d: %d", format, e)
			}
		}
	}
	reads(t, api.Node{}, nil)
	reads(t, api.Node{Format: 1}, nil)
	reads(t, api.Node{Format: 1}, []api.Write{{}})
}

// P11.3: nothing but the format and the map counts.
func TestOtherFields(t *testing.T) {
	for _, x := range ints() {
		n, blocks := allPages()
		n.Kind, n.Links, n.Size, n.Chain = x, x, x, x
		n.Extents = []api.Extent{{At: x, Run: complex(math.NaN(), math.Inf(1))}}
		if e := reads(t, n, blocks); e != api.OK {
			t.Errorf("Read(%v): %d", n, e)
		}
	}
}

// P11.3: the blocks in any order, among others.
func TestOrder(t *testing.T) {
	next := numbers(12)
	for range 200 {
		n, blocks := allPages()
		for at := range 70 {
			blocks = append(blocks, api.Write{At: at * 7 % 61, Data: blockOf(at)}, api.Write{At: -at})
		}
		for i := range blocks {
			k := i + next(len(blocks)-i)
			blocks[i], blocks[k] = blocks[k], blocks[i]
		}
		if e := reads(t, n, blocks); e != api.OK {
			t.Fatalf("Read(%v, %v): %d", n, blocks, e)
		}
	}
}

// P11.3: a block that isn't there, and one that is there twice: the first one counts.
func TestFirstCounts(t *testing.T) {
	for i := range 5 {
		n, blocks := allPages()
		readsNot(t, n, slices.Delete(copied(blocks), i, i+1))
		for _, other := range [][]byte{nil, blockOf(), blockOf(58), blockOf(70), blockOf(480), make([]byte, 64)} {
			w := api.Write{At: blocks[i].At, Data: other}
			reads(t, n, append([]api.Write{w}, blocks...))
			if e := reads(t, n, append(copied(blocks), w)); e != api.OK {
				t.Errorf("block %d: the last one counts", i)
			}
		}
	}
	n, blocks := allPages()
	other, _, _ := planned(some(200, 96), []int{300, 301, 302, 303, 304})
	_, others, _ := planned(some(200, 96), []int{300, 301, 302, 303, 304})
	for _, x := range []api.Node{n, other} {
		reads(t, x, append(copied(blocks), others...))
		reads(t, x, append(copied(others), blocks...))
	}
}

// P11.3: blocks that are too short or too long, or not sealed.
func TestNoBlocks(t *testing.T) {
	for i := range 5 {
		n, blocks := allPages()
		b := blocks[i].Data
		for _, data := range [][]byte{nil, {}, {0}, b[:2], b[:60], b[:63], b[:63:63], append(bytes.Clone(b), 0), append(bytes.Clone(b), b...), append([]byte{0}, b...), append(bytes.Clone(b[:60]), 0, 0, 0, 0), make([]byte, 64), make([]byte, 128), make([]byte, 100000)} {
			list := copied(blocks)
			list[i].Data = data
			readsNot(t, n, list)
		}
		for at := range 64 {
			for bit := range 8 {
				list := copied(blocks)
				list[i].Data[at] ^= 1 << bit
				readsNot(t, n, list)
			}
		}
	}
}

// P11.3: each byte of each block, though the check sum is right.
func TestOtherBytes(t *testing.T) {
	for i := range 5 {
		for at := range 60 {
			for _, x := range []byte{0, 1, 2, 3, 57, 58, 59, 60, 127, 128, 200, 222, 223, 224, 225, 254, 255} {
				n, blocks := allPages()
				blocks[i].Data[at] = x
				blocks[i].Data = sealed(blocks[i].Data[:60]...)
				reads(t, n, blocks)
			}
		}
	}
}

// P11.3: each number in each place of each block: none that is no data block, none twice.
func TestOtherPointers(t *testing.T) {
	_, full := allPages()
	for i := range full {
		for k := range 30 {
			for _, p := range slices.Concat([]int{0, 1, 58, 59, 60, 61, 255, 256, 480, 65535}, some(310, 12), some(479, 96)) {
				n, blocks := allPages()
				copy(blocks[i].Data[2*k:], []byte{byte(p), byte(p >> 8)})
				blocks[i].Data = sealed(blocks[i].Data[:60]...)
				reads(t, n, blocks)
			}
		}
	}
}

// P11.3: blocks that have none but 0.
func TestEmptyBlocks(t *testing.T) {
	for i := range 5 {
		n, blocks := allPages()
		blocks[i].Data = blockOf()
		readsNot(t, n, blocks)
	}
	for _, n := range []api.Node{{Format: 1, Single: 60}, {Format: 1, Double: 60}} {
		readsNot(t, n, []api.Write{{At: 60, Data: blockOf()}})
	}
	n := api.Node{Format: 1, Double: 60}
	readsNot(t, n, []api.Write{{At: 60, Data: blockOf(0, 61)}, {At: 61, Data: blockOf()}})
	if e := reads(t, n, []api.Write{{At: 60, Data: blockOf(0, 61)}, {At: 61, Data: blockOf(62)}}); e != api.OK {
		t.Errorf("Read(%v): %d", n, e)
	}
}

// P11.3: what a node itself names.
func TestOwnPointers(t *testing.T) {
	for i := range 6 {
		for _, p := range slices.Concat(ints(), some(310, 12), some(479, 96)) {
			n, blocks := allPages()
			if i < 4 {
				n.Direct[i] = p
			} else if i == 4 {
				n.Single = p
			} else {
				n.Double = p
			}
			reads(t, n, blocks)
			reads(t, n, append(blocks, api.Write{At: p, Data: blockOf(80)}))
			reads(t, n, append(blocks, api.Write{At: p, Data: blockOf(0, 81)}, api.Write{At: 81, Data: blockOf(82)}))
			reads(t, api.Node{Format: 1, Direct: n.Direct, Single: n.Single, Double: n.Double}, nil)
		}
	}
}

// P11.3: numbers that are no data blocks, though a block of pointers is said to lie there.
func TestBlocksElsewhere(t *testing.T) {
	for _, at := range []int{math.MinInt, -65, -1, 1, 3, 5, 19, 58, 480, 481, 65535, 65536 + 59, math.MaxInt} {
		readsNot(t, api.Node{Format: 1, Single: at}, []api.Write{{At: at, Data: blockOf(80)}})
		readsNot(t, api.Node{Format: 1, Double: at}, []api.Write{{At: at, Data: blockOf(80)}, {At: 80, Data: blockOf(81)}})
		reads(t, api.Node{Format: 1, Double: 80}, []api.Write{{At: 80, Data: blockOf(at)}, {At: at & 0xffff, Data: blockOf(81)}})
	}
}

// P11.3: zeros name no block, though one is said to lie there.
func TestNoNumber(t *testing.T) {
	zero := api.Write{At: 0, Data: blockOf(81)}
	for _, n := range []api.Node{{Format: 1}, {Format: 1, Direct: [4]int{0, 70}}} {
		if e := reads(t, n, []api.Write{zero}); e != api.OK {
			t.Errorf("Read(%v): %d", n, e)
		}
	}
	n := api.Node{Format: 1, Double: 70}
	if e := reads(t, n, []api.Write{zero, {At: 70, Data: blockOf(0, 71)}, {At: 71, Data: blockOf(72)}}); e != api.OK {
		t.Errorf("Read(%v): %d", n, e)
	}
}

// P11.3: a fourth pointer in Double and later ones, whatever they name.
func TestFourthInDouble(t *testing.T) {
	for k := range 30 {
		for _, data := range [][]byte{blockOf(81), blockOf(), nil} {
			names := make([]int, 30)
			names[0], names[k] = 75, 80
			n := api.Node{Format: 1, Double: 70}
			e := reads(t, n, []api.Write{{At: 70, Data: blockOf(names...)}, {At: 75, Data: blockOf(76)}, {At: 80, Data: data}})
			if k > 2 && e != api.ErrForm {
				t.Errorf("pointer %d in Double: %d", k, e)
			}
		}
	}
}

// P11.3: pointers behind the MaxFile-th.
func TestBehindTheLast(t *testing.T) {
	for k := range 30 {
		list := make([]int, 30)
		list[k] = 81
		e := reads(t, api.Node{Format: 1, Double: 70}, []api.Write{{At: 70, Data: blockOf(0, 0, 80)}, {At: 80, Data: blockOf(list...)}})
		if (k > 1) != (e == api.ErrForm) {
			t.Errorf("pointer %d: %d", 94+k, e)
		}
	}
}

// P11.3: one block as two of the map's, or as one and a pointer.
func TestTwice(t *testing.T) {
	one, two := api.Write{At: 70, Data: blockOf(80)}, api.Write{At: 80, Data: blockOf(90)}
	for _, n := range []api.Node{
		{Format: 1, Single: 70, Double: 70}, {Format: 1, Single: 80, Double: 70}, {Format: 1, Single: 70, Double: 80}, {Format: 1, Single: 70, Direct: [4]int{70}}, {Format: 1, Single: 70, Direct: [4]int{80}},
		{Format: 1, Double: 70, Direct: [4]int{0, 0, 0, 70}}, {Format: 1, Double: 70, Direct: [4]int{0, 80}}, {Format: 1, Double: 70, Direct: [4]int{0, 90}}, {Format: 1, Direct: [4]int{90, 0, 0, 90}},
	} {
		readsNot(t, n, []api.Write{one, two, {At: 90, Data: blockOf(100)}})
	}
	for _, data := range [][]byte{blockOf(70), blockOf(80, 80), blockOf(80, 0, 80), blockOf(80, 90), blockOf(80, 100)} {
		readsNot(t, api.Node{Format: 1, Double: 70}, []api.Write{{At: 70, Data: data}, two, {At: 90, Data: blockOf(90)}, {At: 100, Data: blockOf(80)}})
	}
	readsNot(t, api.Node{Format: 1, Single: 70}, []api.Write{{At: 70, Data: blockOf(70)}})
	readsNot(t, api.Node{Format: 1, Single: 70}, []api.Write{{At: 70, Data: blockOf(80, 0, 80)}})
	if e := reads(t, api.Node{Format: 1, Direct: [4]int{91, 0, 92}, Double: 70}, []api.Write{one, two}); e != api.OK {
		t.Errorf("Read: %d", e)
	}
}

// P11.3: maps of any kind, sound or nearly so.
func TestReadsInTurn(t *testing.T) {
	next := numbers(13)
	fine := 0
	for range 20000 {
		list := shuffled(next)
		take := func() int {
			p := list[0]
			list = list[1:]
			switch next(60) {
			case 0:
				return 59 + next(421)
			case 1:
				return 480 + next(3)
			case 2:
				return 58
			case 3, 4, 5:
				return 0
			}
			return p
		}
		page := func(most int) []byte {
			pointers := make([]int, 30)
			for range 1 + next(3) {
				pointers[next(most)] = take()
			}
			return blockOf(pointers...)
		}
		n := api.Node{Format: 1, Direct: [4]int{take(), 0, take()}, Single: take(), Double: take()}
		names := page(3 + next(12)/11)
		blocks := []api.Write{{At: n.Single, Data: page(30)}, {At: n.Double, Data: names}}
		for i := range 4 {
			most := 30
			if i == 2 && next(4) > 0 {
				most = 2
			}
			blocks = append(blocks, api.Write{At: int(names[2*i]) + 256*int(names[2*i+1]), Data: page(most)})
		}
		if next(10) == 0 {
			blocks = append(blocks[:next(6)], blocks[next(6):]...)
		}
		if reads(t, n, blocks) == api.OK {
			fine++
		}
	}
	if fine < 3000 || fine > 17000 {
		t.Errorf("%d maps of 20000 are sound", fine)
	}
}

// P11.3, R1: very many blocks.
func TestManyBlocks(t *testing.T) {
	n, blocks := allPages()
	many := make([]api.Write, 100000, 100005)
	if e := reads(t, n, append(many, blocks...)); e != api.OK {
		t.Errorf("Read: %d", e)
	}
	readsNot(t, n, many)
}

// P11.2, R4: what is answered is new memory, and what is handed in is left as it is, spare room too.
func TestMemoryOfPlan(t *testing.T) {
	for _, file := range someFiles() {
		pointers, fresh := append(slices.Clone(file), -7, -8), append(some(379, 5), -9, -10)
		kept, keptFresh := slices.Clone(pointers), slices.Clone(fresh)
		n, first, _ := Plan(pointers[:len(file)], fresh[:5])
		_, second, _ := Plan(pointers[:len(file)], fresh[:5])
		want, wanted, _ := planned(file, some(379, 5))
		for i, w := range first {
			for k := range w.Data[:cap(w.Data)] {
				w.Data[:cap(w.Data)][k] = byte(i + 1)
			}
		}
		for i, w := range first {
			if w.Data[0] != byte(i+1) || w.Data[63] != byte(i+1) {
				t.Errorf("%v: blocks of one answer share memory", file)
			}
		}
		clear(first[:cap(first)])
		Need(pointers[:len(file)])
		if !slices.Equal(pointers, kept) || !slices.Equal(fresh, keptFresh) {
			t.Errorf("%v: what was handed in is changed: %v, %v", file, pointers, fresh)
		}
		clear(pointers)
		clear(fresh)
		if !sameNode(n, want) || !equalWrites(second, wanted) {
			t.Errorf("%v: answers share memory: %v %v", file, n, second)
		}
	}
}

// P11.3, R4: likewise.
func TestMemoryOfRead(t *testing.T) {
	for _, file := range someFiles() {
		n, blocks, _ := planned(file, some(379, 5))
		n.Extents = []api.Extent{{At: 5, Run: 6}}
		room := append(copied(blocks), api.Write{At: 1, Data: []byte{1}})
		for i, w := range room {
			room[i].Data = append(w.Data, 1, 2, 3)[:len(w.Data)]
		}
		kept := copied(room)
		want, wanted, _ := readOf(n, blocks)
		first, own, _ := Read(n, room[:len(blocks)])
		second, ownToo, _ := Read(n, room[:len(blocks)])
		for i := range first[:cap(first)] {
			first[:cap(first)][i] = -1
		}
		if !slices.Equal(own, wanted) {
			t.Errorf("%v: the lists of one answer share memory: %v", file, own)
		}
		clear(own[:cap(own)])
		if !equalWrites(room, kept) || n.Extents[0] != (api.Extent{At: 5, Run: 6}) {
			t.Errorf("%v: what was handed in is changed: %v", file, room)
		}
		for _, w := range room {
			if behind := w.Data[len(w.Data) : len(w.Data)+3]; !bytes.Equal(behind, []byte{1, 2, 3}) {
				t.Errorf("%v: behind a block lies %v", file, behind)
			}
			clear(w.Data)
		}
		clear(room)
		if !slices.Equal(second, want) || !slices.Equal(ownToo, wanted) {
			t.Errorf("%v: answers share memory: %v %v", file, second, ownToo)
		}
	}
}
