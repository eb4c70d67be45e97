package chain

import (
	"bytes"
	"math"
	"slices"
	"testing"

	"drydock/api"
	"drydock/extent"
	"drydock/node"
	"drydock/spin"
)

// at is the extent of so many blocks from a first one on.
func at(place, first, count int) api.Extent {
	return api.Extent{At: place, Run: complex(float64(first), float64(count))}
}

// sealed is a block of these bytes, 0 behind them, and the check sum.
func sealed(first ...byte) []byte {
	b := make([]byte, 64)
	copy(b[:60], first)
	sum := spin.Sum(b[:60])
	b[60], b[61], b[62], b[63] = byte(sum), byte(sum>>8), byte(sum>>16), byte(sum>>24)
	return b
}

// blockOf lays extents byte by byte, 14 at most; of numbers that do not fit, their last bytes.
func blockOf(next int, list ...api.Extent) []byte {
	b := []byte{byte(len(list)), 0, byte(next), byte(next >> 8)}
	for _, x := range list {
		first, count := int(real(x.Run)), int(imag(x.Run))
		b = append(b, byte(x.At), byte(first), byte(first>>8), byte(count))
	}
	return sealed(b...)
}

// has: is this block in one of the runs?
func has(list []api.Extent, block int) bool {
	return slices.ContainsFunc(list, func(x api.Extent) bool {
		return float64(block) >= real(x.Run) && float64(block) < real(x.Run)+imag(x.Run)
	})
}

func isData(n int) bool { return n >= 59 && n <= 479 }

func needed(extents int) (int, api.Errno) {
	if extents < 0 || extents > 96 {
		return 0, api.ErrArg
	}
	n := 0
	for left := extents - 3; left > 0; left -= 14 {
		n++
	}
	return n, api.OK
}

// planned lays block behind block, from the first one on.
func planned(list []api.Extent, fresh []int) (api.Node, []api.Write, api.Errno) {
	if !extent.Sound(list) {
		return api.Node{}, nil, api.ErrForm
	}
	need, _ := needed(len(list))
	if len(fresh) < need {
		return api.Node{}, nil, api.ErrSpace
	}
	for i, n := range fresh[:need] {
		if !isData(n) || slices.Contains(fresh[:i], n) || has(list, n) {
			return api.Node{}, nil, api.ErrArg
		}
	}
	n := api.Node{Format: 2}
	n.Extents, list = list[:min(3, len(list))], list[min(3, len(list)):]
	if need > 0 {
		n.Chain = fresh[0]
	}
	var blocks []api.Write
	for i := range need {
		next := 0
		if i+1 < need {
			next = fresh[i+1]
		}
		piece := list[:min(14, len(list))]
		list = list[len(piece):]
		blocks = append(blocks, api.Write{At: fresh[i], Data: blockOf(next, piece...)})
	}
	return n, blocks, api.OK
}

// pieceOf reads the first block of that number by the document's words; false, if it is none of extents.
func pieceOf(at int, blocks []api.Write) (list []api.Extent, next int, ok bool) {
	for _, w := range blocks {
		if w.At != at {
			continue
		}
		b := w.Data
		if len(b) != 64 || !bytes.Equal(b, sealed(b[:60]...)) || b[0] < 1 || b[0] > 14 || b[1] != 0 {
			return nil, 0, false
		}
		for i := range 14 {
			slot := b[4+4*i : 8+4*i]
			if i >= int(b[0]) {
				if !bytes.Equal(slot, make([]byte, 4)) {
					return nil, 0, false
				}
				continue
			}
			first, count := int(slot[1])+256*int(slot[2]), int(slot[3])
			list = append(list, api.Extent{At: int(slot[0]), Run: complex(float64(first), float64(count))})
		}
		return list, int(b[2]) + 256*int(b[3]), true
	}
	return nil, 0, false
}

func readOf(n api.Node, blocks []api.Write) ([]api.Extent, []int, api.Errno) {
	if n.Format != 2 {
		return nil, nil, api.ErrKind
	}
	if n.Chain != 0 && len(n.Extents) < 3 {
		return nil, nil, api.ErrForm
	}
	list := slices.Clone(n.Extents)
	var own []int
	for next := n.Chain; next != 0; {
		if slices.Contains(own, next) {
			return nil, nil, api.ErrForm
		}
		piece, behind, ok := pieceOf(next, blocks)
		if !ok || behind != 0 && len(piece) != 14 {
			return nil, nil, api.ErrForm
		}
		own, list = append(own, next), append(list, piece...)
		next = behind
	}
	if !extent.Sound(list) || slices.ContainsFunc(own, func(n int) bool { return has(list, n) }) {
		return nil, nil, api.ErrForm
	}
	return list, own, api.OK
}

// ints are numbers round all ends of what is sound, those that look sound when they are cut to fewer bytes, and the ends of what an int is.
func ints() []int {
	return []int{
		math.MinInt, math.MinInt + 1, math.MinInt32, -65535, -480, -59, -1, 0, 1, 2, 3, 4, 13, 14, 15, 16, 17, 18, 31, 32, 57, 58, 59, 60, 87, 88, 95, 96, 97, 98, 255, 256, 257, 258, 478, 479, 480, 481, 511, 512,
		65535, 65536, 65536 + 59, 65536 + 70, 1<<24 + 60, math.MaxInt32, 1 << 32, 1<<32 + 70, math.MaxInt - 1, math.MaxInt,
	}
}

// single are so many extents of one block each, from 479 down.
func single(count int) []api.Extent {
	var list []api.Extent
	for k := range count {
		list = append(list, at(k, 479-k, 1))
	}
	return list
}

// some are so many numbers from a first one on, going up.
func some(first, count int) []int {
	var list []int
	for i := range count {
		list = append(list, first+i)
	}
	return list
}

// someLists are sound: none, few, just what a node and its blocks have room for, one more, and as many as can be.
func someLists() [][]api.Extent {
	lists := [][]api.Extent{nil, {}, {at(0, 400, 79)}, {at(0, 400, 2), at(3, 402, 1), at(4, 420, 1)}, {at(0, 403, 2), at(2, 400, 3), at(6, 410, 5), at(90, 300, 6)}}
	var apart []api.Extent
	for k := range 31 {
		apart = append(apart, at(3*k+1, 300+5*k, 1+k%3))
	}
	for _, count := range []int{1, 2, 3, 4, 16, 17, 18, 30, 31, 32, 87, 88, 95, 96} {
		lists = append(lists, single(count))
	}
	return append(lists, apart, apart[:3], apart[:17], apart[5:23])
}

// unsoundLists are not sound, each for a reason of its own.
func unsoundLists() [][]api.Extent {
	return [][]api.Extent{
		{{}}, {at(0, 60, 0)}, {at(-1, 60, 2)}, {at(96, 60, 1)}, {at(0, 60, 97)}, {at(0, 58, 1)}, {at(0, 479, 2)}, {at(0, 60, 2), at(2, 62, 1)}, {at(0, 60, 2), at(1, 70, 1)}, {at(5, 60, 1), at(0, 70, 1)}, {at(0, 60, 2), at(5, 61, 1)},
		{{Run: complex(math.NaN(), 1)}}, {{Run: complex(60, math.Inf(1))}}, {{Run: 60.5 + 1i}}, {at(math.MaxInt, 60, 1)}, {at(math.MinInt, 60, 1)}, single(97), append(single(95), at(95, 479, 1)), append(single(96), api.Extent{}), append(single(50), at(49, 70, 1)), make([]api.Extent, 100000),
	}
}

// numbers answers the same numbers each time.
func numbers(seed uint32) func(below int) int {
	return func(below int) int {
		seed = seed*1664525 + 1013904223
		return int(seed>>8) % below
	}
}

func equalWrites(a, b []api.Write) bool {
	return slices.EqualFunc(a, b, func(x, y api.Write) bool { return x.At == y.At && bytes.Equal(x.Data, y.Data) })
}

func copied(blocks []api.Write) []api.Write {
	var all []api.Write
	for _, w := range blocks {
		all = append(all, api.Write{At: w.At, Data: bytes.Clone(w.Data)})
	}
	return all
}

func needs(t *testing.T, extents int) {
	t.Helper()
	n, e := Need(extents)
	if want, f := needed(extents); n != want || e != f {
		t.Fatalf("Need(%d): %d %d, not %d %d", extents, n, e, want, f)
	}
}

// plans holds Plan, and Read of what was planned, against the words.
func plans(t *testing.T, list []api.Extent, fresh []int) api.Errno {
	t.Helper()
	n, blocks, e := Plan(list, fresh)
	want, wanted, f := planned(list, fresh)
	if !node.Same(n, want) || !equalWrites(blocks, wanted) || e != f {
		t.Fatalf("Plan(%v, %v): %v %v %d, not %v %v %d", list, fresh, n, blocks, e, want, wanted, f)
	}
	if e != api.OK {
		if blocks != nil || n.Extents != nil {
			t.Fatalf("Plan(%v, %v): beside %d stand %v %v", list, fresh, e, n, blocks)
		}
		return e
	}
	again, own, e := Read(n, blocks)
	if e != api.OK || !slices.Equal(again, list) || !slices.Equal(own, fresh[:len(blocks)]) {
		t.Fatalf("Read of Plan(%v, %v): %v %v %d", list, fresh, again, own, e)
	}
	return e
}

func reads(t *testing.T, n api.Node, blocks []api.Write) api.Errno {
	t.Helper()
	list, own, e := Read(n, blocks)
	want, wanted, f := readOf(n, blocks)
	if !slices.Equal(list, want) || !slices.Equal(own, wanted) || e != f {
		t.Fatalf("Read(%v, %v): %v %v %d, not %v %v %d", n, blocks, list, own, e, want, wanted, f)
	}
	if e != api.OK && (list != nil || own != nil) {
		t.Fatalf("Read(%v, %v): beside %d stand %v %v", n, blocks, e, list, own)
	}
	return e
}

func readsNot(t *testing.T, n api.Node, blocks []api.Write) {
	t.Helper()
	if e := reads(t, n, blocks); e != api.ErrForm {
		t.Fatalf("Read(%v, %v): %d", n, blocks, e)
	}
}

// full is a file with all blocks of extents that there may be; the last one has 9.
func full() (api.Node, []api.Write) {
	n, blocks, _ := planned(single(96), []int{70, 300, 71, 299, 257, 59, 383})
	return n, blocks
}

// node3 is a node with three extents and a chain.
func node3(chain int) api.Node {
	return api.Node{Format: 2, Extents: single(3), Chain: chain}
}

// from are the extents of single from the k-th on.
func from(k, count int) []api.Extent {
	return single(k + count)[k:]
}

// P13.1, P13.2: bytes written out, check sums too.
func TestBytes(t *testing.T) {
	list := []api.Extent{{At: 0, Run: 60 + 2i}, {At: 3, Run: 62 + 1i}, {At: 4, Run: 80 + 1i}, {At: 5, Run: 256 + 3i}}
	for k := range 13 {
		list = append(list, at(10+k, 100-k, 1))
	}
	list = append(list, api.Extent{At: 30, Run: 383 + 65i}, api.Extent{At: 95, Run: 479 + 1i})
	first := []byte{14, 0, 44, 1, 5, 0, 1, 3, 10, 100, 0, 1, 11, 99, 0, 1, 12, 98, 0, 1, 13, 97, 0, 1, 14, 96, 0, 1, 15, 95, 0, 1, 16, 94, 0, 1, 17, 93, 0, 1, 18, 92, 0, 1, 19, 91, 0, 1, 20, 90, 0, 1, 21, 89, 0, 1, 22, 88, 0, 1, 215, 116, 140, 212}
	last := make([]byte, 64)
	copy(last, []byte{2, 0, 0, 0, 30, 127, 1, 65, 95, 223, 1, 1})
	copy(last[60:], []byte{202, 153, 142, 139})
	want := []api.Write{{At: 478, Data: first}, {At: 300, Data: last}}
	n, blocks, e := Plan(list, []int{478, 300, 60, -1})
	if e != api.OK || !node.Same(n, api.Node{Format: 2, Extents: list[:3], Chain: 478}) || !equalWrites(blocks, want) {
		t.Errorf("Plan: %v %v %d", n, blocks, e)
	}
	again, own, e := Read(n, want)
	if e != api.OK || !slices.Equal(again, list) || !slices.Equal(own, []int{478, 300}) {
		t.Errorf("Read: %v %v %d", again, own, e)
	}
}

// P13.1: answers written out, and each number.
func TestNeed(t *testing.T) {
	for extents, want := range map[int]int{0: 0, 1: 0, 3: 0, 4: 1, 17: 1, 18: 2, 31: 2, 32: 3, 87: 6, 88: 7, 96: 7} {
		if n, e := Need(extents); n != want || e != api.OK {
			t.Errorf("Need(%d): %d %d", extents, n, e)
		}
	}
	for extents := range 300 {
		needs(t, extents-100)
	}
	for _, extents := range ints() {
		needs(t, extents)
	}
}

// P13.1: each number of extents; fresh that are too few, just enough, and more, of which those behind are not looked at.
func TestFresh(t *testing.T) {
	for count := range 100 {
		list := single(count)
		for size := range 10 {
			for _, behind := range [][]int{nil, {0}, {-1}, {480}, {70}, {479}, {math.MaxInt, math.MinInt}} {
				plans(t, list, append(some(70, size), behind...))
			}
		}
		plans(t, list, nil)
		plans(t, list, append(some(77, 7), make([]int, 100000)...))
	}
}

// P13.1: each number in each place of fresh, and those of the others of fresh, and of the extents.
func TestFreshNumbers(t *testing.T) {
	for _, list := range someLists() {
		for i := range 8 {
			for _, n := range slices.Concat(ints(), some(68, 12), some(296, 184)) {
				fresh := some(70, 8)
				fresh[i] = n
				plans(t, list, fresh)
			}
		}
	}
	for i := range 7 {
		for k := range 7 {
			fresh := some(70, 8)
			fresh[i] = fresh[k]
			if e := plans(t, single(96), fresh); (e == api.ErrArg) != (i != k) {
				t.Errorf("%d as %d: %d", i, k, e)
			}
		}
	}
}

// P13.1: every block of a run of the node's, and of a block's, as fresh.
func TestFreshOfRuns(t *testing.T) {
	for _, list := range [][]api.Extent{{at(0, 100, 5), at(10, 120, 5), at(20, 140, 5), at(30, 160, 5), at(40, 180, 5)}, {at(0, 100, 1), at(1, 200, 1), at(2, 101, 1), at(3, 202, 90)}} {
		for n := 59; n < 480; n++ {
			want := api.OK
			if has(list, n) {
				want = api.ErrArg
			}
			if e := plans(t, list, []int{n}); e != want {
				t.Errorf("Plan of %d: %d", n, e)
			}
			plans(t, list[:3], []int{n})
		}
	}
}

// P13.1: which error is told: ErrForm ahead of ErrSpace, that ahead of ErrArg.
func TestWhichError(t *testing.T) {
	for _, list := range unsoundLists() {
		for _, fresh := range [][]int{nil, {0}, {70}, some(70, 7), {-1, -1, -1, -1, -1, -1, -1, -1}, some(470, 10)} {
			if e := plans(t, list, fresh); e != api.ErrForm {
				t.Errorf("Plan(%v, %v): %d", list, fresh, e)
			}
		}
	}
	for _, fresh := range [][]int{nil, {0}, {70}, {70, 70}, {479, 479}, {-1, 0, 70}} {
		if e := plans(t, single(96), fresh); e != api.ErrSpace {
			t.Errorf("Plan(%v): %d", fresh, e)
		}
	}
	if e := plans(t, nil, nil); e != api.OK {
		t.Errorf("Plan of nothing: %d", e)
	}
}

// P13.1, P13.2: extents of any lengths, with holes.
func TestPlansInTurn(t *testing.T) {
	next := numbers(21)
	most := 0
	for range 4000 {
		pointers := make([]int, 96)
		free := some(59, 421)
		long := 1 + next(8)
		for k := 0; k < 96; {
			i, count := next(len(free)), min(1+next(long), 96-k)
			count = copy(pointers[k:k+count], free[i:])
			free = slices.Delete(free, i, i+count)
			k += count + next(5)/4
		}
		list, e := extent.From(pointers)
		if e != api.OK {
			t.Fatalf("From(%v): %d", pointers, e)
		}
		most = max(most, len(list))
		var fresh []int
		for range next(9) {
			fresh = append(fresh, free[next(len(free))])
		}
		if len(fresh) > 0 && next(8) == 0 {
			fresh[next(len(fresh))] = pointers[next(96)]
		}
		plans(t, list, fresh)
	}
	if most < 50 {
		t.Errorf("at most %d extents", most)
	}
}

// P13.2: formats that are not New, whatever else there is: ErrKind.
func TestKind(t *testing.T) {
	for _, format := range ints() {
		for _, blocks := range []bool{false, true} {
			n, list := full()
			n.Format = format
			if !blocks {
				list = nil
			}
			want := api.ErrKind
			if format == 2 && blocks {
				want = api.OK
			} else if format == 2 {
				want = api.ErrForm
			}
			if e := reads(t, n, list); e != want {
				t.Errorf("Read of format %d: %d", format, e)
			}
		}
	}
	reads(t, api.Node{}, nil)
	reads(t, api.Node{Format: 2}, nil)
	reads(t, api.Node{Format: 2}, []api.Write{{}})
}

// P13.2: nothing but the format, the extents and the chain counts.
func TestOtherFields(t *testing.T) {
	for _, x := range ints() {
		n, blocks := full()
		n.Kind, n.Links, n.Size, n.Direct, n.Single, n.Double = x, x, x, [4]int{x, x, 479, 70}, x, x
		if e := reads(t, n, blocks); e != api.OK {
			t.Errorf("Read(%v): %d", n, e)
		}
	}
}

// P13.2: the blocks in any order, among others.
func TestOrder(t *testing.T) {
	next := numbers(22)
	for range 200 {
		n, blocks := full()
		for at := range 70 {
			blocks = append(blocks, api.Write{At: at * 7 % 59, Data: blockOf(at, single(14)...)}, api.Write{At: -at})
		}
		for i := range blocks {
			k := i + next(len(blocks)-i)
			blocks[i], blocks[k] = blocks[k], blocks[i]
		}
		if e := reads(t, n, blocks); e != api.OK {
			t.Fatalf("Read(%v, %v): %d", n, blocks, e)
		}
	}
}

// P13.2: a block that isn't there, and one that is there twice: the first one counts.
func TestFirstCounts(t *testing.T) {
	for i := range 7 {
		n, blocks := full()
		readsNot(t, n, slices.Delete(copied(blocks), i, i+1))
		for _, other := range [][]byte{nil, blockOf(0), blockOf(70, single(14)...), make([]byte, 64)} {
			w := api.Write{At: blocks[i].At, Data: other}
			readsNot(t, n, append([]api.Write{w}, blocks...))
			if e := reads(t, n, append(copied(blocks), w)); e != api.OK {
				t.Errorf("block %d: the last one counts", i)
			}
		}
		end := api.Write{At: blocks[i].At, Data: blockOf(0, from(3+14*i, 1)...)}
		if e := reads(t, n, append([]api.Write{end}, blocks...)); e != api.OK {
			t.Errorf("block %d: %d", i, e)
		}
	}
	readsNot(t, node3(70), nil)
}

// P13.2: blocks that are too short or too long, or not sealed.
func TestNoBlocks(t *testing.T) {
	for i := range 7 {
		n, blocks := full()
		b := blocks[i].Data
		for _, data := range [][]byte{nil, {}, {0}, {14}, b[:2], b[:60], b[:63], b[:63:63], append(bytes.Clone(b), 0), append(bytes.Clone(b), b...), append([]byte{0}, b...), append(bytes.Clone(b[:60]), 0, 0, 0, 0), make([]byte, 64), make([]byte, 128), make([]byte, 100000)} {
			list := copied(blocks)
			list[i].Data = data
			readsNot(t, n, list)
		}
		for at := range 64 {
			for bit := range 8 {
				list := copied(blocks)
				list[i].Data[at] ^= 1 << bit
				readsNot(t, n, list)
			}
		}
	}
}

// P13.2: each byte of each block, though the check sum is right.
func TestOtherBytes(t *testing.T) {
	for i := range 7 {
		for at := range 60 {
			for _, x := range []byte{0, 1, 2, 3, 9, 13, 14, 15, 57, 58, 59, 60, 70, 71, 95, 96, 127, 128, 200, 223, 224, 254, 255} {
				n, blocks := full()
				blocks[i].Data[at] = x
				blocks[i].Data = sealed(blocks[i].Data[:60]...)
				reads(t, n, blocks)
			}
		}
	}
}

// P13.2: how many extents a block says that it has, whatever it has.
func TestCounts(t *testing.T) {
	for has := range 15 {
		for says := range 256 {
			for _, next := range []int{0, 71} {
				data := blockOf(next, from(3, has)...)
				data[0] = byte(says)
				blocks := []api.Write{{At: 70, Data: sealed(data[:60]...)}, {At: 71, Data: blockOf(0, from(50, 2)...)}}
				fine := says == has && says > 0 && (next == 0 || has == 14)
				if e := reads(t, node3(70), blocks); (e == api.OK) != fine || !fine && e != api.ErrForm {
					t.Errorf("%d of %d, then %d: %d", says, has, next, e)
				}
			}
		}
	}
}

// P13.2: blocks but the last that have fewer than 14.
func TestFewer(t *testing.T) {
	for i := range 7 {
		for count := range 15 {
			n, blocks := full()
			next := int(blocks[i].Data[2]) + 256*int(blocks[i].Data[3])
			blocks[i].Data = blockOf(next, from(3+14*i, count)...)
			if e := reads(t, n, blocks); i < 6 && (e == api.OK) != (count == 14) {
				t.Errorf("block %d of %d: %d", i, count, e)
			}
		}
	}
}

// P13.2: bytes between and behind the fields, though the check sum is right.
func TestBytesElse(t *testing.T) {
	for count := 1; count < 15; count++ {
		for at := range 60 {
			data := blockOf(0, from(3, count)...)
			if at != 1 && at < 4+4*count {
				continue
			}
			data[at] = 1
			readsNot(t, node3(70), []api.Write{{At: 70, Data: sealed(data[:60]...)}})
		}
	}
}

// P13.2: extents that are no runs of data blocks, in a block.
func TestNoRuns(t *testing.T) {
	for _, x := range []api.Extent{at(3, 0, 0), {}, at(3, 60, 0), at(3, 0, 1), at(3, 58, 1), at(3, 58, 2), at(3, 480, 1), at(3, 479, 2), at(3, 478, 3), at(3, 65535, 255), at(3, 60, 94), at(3, 60, 255), at(95, 60, 2), at(96, 60, 1), at(255, 60, 1), at(2, 60, 1), at(1, 60, 1), at(3, 478, 1), at(3, 479, 1), at(3, 476, 2)} {
		for _, list := range [][]api.Extent{{x}, {x, at(90, 200, 1)}, append(from(3, 4), x)} {
			readsNot(t, node3(70), []api.Write{{At: 70, Data: blockOf(0, list...)}})
		}
	}
	for _, x := range []api.Extent{at(3, 59, 1), at(3, 384, 93), at(95, 400, 1), at(94, 400, 2), at(40, 60, 9)} {
		if e := reads(t, node3(70), []api.Write{{At: 70, Data: blockOf(0, x)}}); e != api.OK {
			t.Errorf("Read(%v): %d", x, e)
		}
	}
}

// P13.2: Chain with fewer than 3 extents in the node, whatever it names.
func TestFewerInNode(t *testing.T) {
	for count := range 4 {
		for _, chain := range ints() {
			n := api.Node{Format: 2, Extents: single(count), Chain: chain}
			e := reads(t, n, []api.Write{{At: chain, Data: blockOf(0, from(40, 2)...)}})
			if count < 3 && chain != 0 && e != api.ErrForm {
				t.Errorf("Read(%v): %d", n, e)
			}
			reads(t, n, nil)
		}
		if e := reads(t, api.Node{Format: 2, Extents: single(count)}, nil); e != api.OK {
			t.Errorf("%d extents without a chain: %d", count, e)
		}
	}
}

// P13.2: a node's own extents, that are sound alone or not, with a chain and without.
func TestOwnExtents(t *testing.T) {
	for _, list := range append(someLists(), unsoundLists()...) {
		for _, blocks := range [][]api.Write{nil, {{At: 290, Data: blockOf(0, at(95, 291, 1))}}, {{At: 290, Data: blockOf(0, at(94, 291, 1), at(95, 400, 1))}}} {
			reads(t, api.Node{Format: 2, Extents: list}, blocks)
			reads(t, api.Node{Format: 2, Extents: list, Chain: 290}, blocks)
		}
	}
}

// P13.2: extents that are sound in the node and in each block, but not together.
func TestTogether(t *testing.T) {
	for i := range 7 {
		for k := range 9 {
			for _, x := range []api.Extent{at(0, 200, 1), at(1, 60, 1), at(95, 200, 1), at(50, 475, 1), at(3+14*i+k, 470, 20), at(3+14*i+k, 381, 40), at(3+14*i+k, 479-(2+14*i+k), 1), at(3+14*i+k, 480-(2+14*i+k), 1), at(3+14*i+k, 150, 2), at(3+14*i+k, 150, 1)} {
				n, blocks := full()
				list, next, _ := pieceOf(blocks[i].At, blocks)
				list[k] = x
				blocks[i].Data = blockOf(next, list...)
				reads(t, n, blocks)
			}
		}
	}
	readsNot(t, node3(70), []api.Write{{At: 70, Data: blockOf(0, at(2, 100, 1))}})
	readsNot(t, node3(70), []api.Write{{At: 70, Data: blockOf(0, at(0, 100, 1))}})
	readsNot(t, node3(70), []api.Write{{At: 70, Data: blockOf(0, at(5, 478, 1))}})
	readsNot(t, api.Node{Format: 2, Extents: []api.Extent{at(0, 100, 1), at(2, 102, 1), at(3, 110, 5)}, Chain: 70}, []api.Write{{At: 70, Data: blockOf(0, at(8, 115, 1))}})
}

// P13.2: one extent more than a file may have.
func TestTooMany(t *testing.T) {
	n, blocks := full()
	last := blocks[6].At
	blocks[6].Data = blockOf(0, append(from(87, 9), at(96, 100, 1))...)
	readsNot(t, n, blocks)
	for _, count := range []int{1, 9, 14} {
		list := from(87, 9)
		for k := 9; k < count; k++ {
			list = append(list, at(87+k, 100+2*k, 1))
		}
		blocks[6].Data = blockOf(90, list...)
		readsNot(t, n, append(blocks, api.Write{At: 90, Data: blockOf(0, at(95, 200, 1))}))
		blocks[6] = api.Write{At: last, Data: blockOf(0, list...)}
		reads(t, n, blocks)
	}
}

// P13.2: a block of a run that is one of the chain.
func TestBlocksOfTheChain(t *testing.T) {
	for i := range 7 {
		for at := range 96 {
			n, blocks := full()
			fresh := []int{70, 300, 71, 299, 257, 59, 383}
			fresh[i] = 479 - at
			n.Chain = fresh[0]
			for k := range blocks {
				list, _, _ := pieceOf(blocks[k].At, blocks[k:])
				next := 0
				if k < 6 {
					next = fresh[k+1]
				}
				blocks[k] = api.Write{At: fresh[k], Data: blockOf(next, list...)}
			}
			readsNot(t, n, blocks)
		}
	}
	for block := 59; block < 480; block++ {
		n := api.Node{Format: 2, Extents: []api.Extent{at(0, 100, 5), at(10, 120, 5), at(20, 140, 5)}, Chain: block}
		blocks := []api.Write{{At: block, Data: blockOf(0, at(30, 160, 5))}}
		want := api.OK
		if has(n.Extents, block) || block >= 160 && block < 165 {
			want = api.ErrForm
		}
		if e := reads(t, n, blocks); e != want {
			t.Errorf("chain at %d: %d", block, e)
		}
	}
}

// P13.2: chains that go round, to any of their blocks.
func TestTwice(t *testing.T) {
	for i := range 7 {
		for k := range 7 {
			n, blocks := full()
			list, _, _ := pieceOf(blocks[i].At, blocks)
			for len(list) < 14 {
				list = append(list, at(90, 200+len(list)*2, 1))
			}
			blocks[i].Data = blockOf(blocks[k].At, list...)
			if e := reads(t, n, blocks); k <= i && e != api.ErrForm {
				t.Errorf("block %d names block %d: %d", i, k, e)
			}
			blocks[i].Data = blockOf(blocks[k].At, list[:9]...)
			readsNot(t, n, blocks)
		}
	}
	readsNot(t, node3(70), []api.Write{{At: 70, Data: blockOf(70, from(3, 1)...)}})
	readsNot(t, node3(70), []api.Write{{At: 70, Data: blockOf(70, from(3, 14)...)}})
	readsNot(t, node3(70), []api.Write{{At: 70, Data: blockOf(71, from(3, 14)...)}, {At: 71, Data: blockOf(70, from(17, 14)...)}})
}

// P13.2: zeros name no block, though one is said to lie there.
func TestNoNumber(t *testing.T) {
	zero := api.Write{At: 0, Data: blockOf(70, from(20, 14)...)}
	for _, n := range []api.Node{{Format: 2}, node3(0)} {
		if e := reads(t, n, []api.Write{zero}); e != api.OK {
			t.Errorf("Read(%v): %d", n, e)
		}
	}
	if e := reads(t, node3(70), []api.Write{zero, {At: 70, Data: blockOf(0, from(3, 14)...)}}); e != api.OK {
		t.Errorf("Read: %d", e)
	}
}

// P13.2: numbers round all ends that Chain, or a block, names: what lies there counts.
func TestNames(t *testing.T) {
	for _, block := range ints() {
		data := blockOf(0, from(17, 3)...)
		reads(t, node3(block), nil)
		reads(t, node3(block), []api.Write{{At: block, Data: data}})
		reads(t, node3(block), []api.Write{{At: block}})
		reads(t, node3(block), []api.Write{{At: block & 0xffff, Data: data}})
		reads(t, node3(70), []api.Write{{At: 70, Data: blockOf(block, from(3, 14)...)}, {At: block & 0xffff, Data: data}})
		reads(t, node3(70), []api.Write{{At: 70, Data: blockOf(block, from(3, 14)...)}})
	}
}

// P13.2, R1, R8: very many blocks, and a chain through all of them.
func TestManyBlocks(t *testing.T) {
	n, blocks := full()
	many := make([]api.Write, 100000, 100010)
	if e := reads(t, n, append(many, blocks...)); e != api.OK {
		t.Errorf("Read: %d", e)
	}
	readsNot(t, n, many)
	long := make([]api.Write, 65536)
	for i := range long {
		long[i] = api.Write{At: i, Data: blockOf((i+1)%65536, from(3, 14)...)}
	}
	if list, own, e := Read(node3(1), long); list != nil || own != nil || e != api.ErrForm {
		t.Errorf("Read of a long chain: %v %v %d", list, own, e)
	}
	far := api.Node{Format: 2, Extents: make([]api.Extent, 100000), Chain: 70}
	readsNot(t, far, []api.Write{{At: 70, Data: blockOf(0, from(3, 1)...)}})
	readsNot(t, far, nil)
}

// P13.2: chains of any kind, sound or nearly so.
func TestReadsInTurn(t *testing.T) {
	next := numbers(23)
	fine := 0
	for range 20000 {
		count := 4 + next(93)
		list := single(count)
		need, _ := needed(count)
		var names []int
		for range need {
			names = append(names, 59+next(320))
		}
		n := api.Node{Format: 2, Extents: list[:3], Chain: names[0]}
		var blocks []api.Write
		for i := range need {
			to := 0
			if i+1 < need {
				to = names[i+1]
			}
			piece := list[3+14*i : min(17+14*i, count)]
			switch next(12 * need) {
			case 0:
				piece = piece[:1+next(len(piece))]
			case 1:
				piece = slices.Clone(piece)
				piece[next(len(piece))] = at(next(97), 58+next(423), next(4))
			case 2:
				to = names[next(need)]
			case 3:
				to = next(65536)
			}
			blocks = append(blocks, api.Write{At: names[i], Data: blockOf(to, piece...)})
		}
		for i := range blocks {
			k := i + next(len(blocks)-i)
			blocks[i], blocks[k] = blocks[k], blocks[i]
		}
		if next(30) == 0 {
			blocks = blocks[1:]
		}
		if reads(t, n, blocks) == api.OK {
			fine++
		}
	}
	if fine < 5000 || fine > 18000 {
		t.Errorf("%d chains of 20000 are sound", fine)
	}
}

// P13.1, R4: what is answered is new memory, and what is handed in is left as it is, spare room too.
func TestMemoryOfPlan(t *testing.T) {
	for _, file := range someLists() {
		list, fresh := append(slices.Clone(file), at(7, 8, 9), at(-1, -2, -3)), append(some(70, 7), -9, -10)
		kept, keptFresh := slices.Clone(list), slices.Clone(fresh)
		n, first, _ := Plan(list[:len(file)], fresh[:7])
		m, second, _ := Plan(list[:len(file)], fresh[:7])
		want, wanted, _ := planned(file, some(70, 7))
		for i, w := range first {
			for k := range w.Data[:cap(w.Data)] {
				w.Data[:cap(w.Data)][k] = byte(i + 1)
			}
		}
		for i, w := range first {
			if w.Data[0] != byte(i+1) || w.Data[63] != byte(i+1) {
				t.Errorf("%v: blocks of one answer share memory", file)
			}
		}
		clear(first[:cap(first)])
		clear(n.Extents[:cap(n.Extents)])
		if !slices.Equal(list, kept) || !slices.Equal(fresh, keptFresh) {
			t.Errorf("%v: what was handed in is changed: %v, %v", file, list, fresh)
		}
		clear(list)
		clear(fresh)
		if !node.Same(m, want) || !equalWrites(second, wanted) {
			t.Errorf("%v: answers share memory: %v %v", file, m, second)
		}
	}
}

// P13.2, R4: likewise.
func TestMemoryOfRead(t *testing.T) {
	for _, file := range someLists() {
		n, blocks, _ := planned(slices.Clone(file), some(70, 7))
		n.Extents = append(slices.Clone(n.Extents), at(7, 8, 9), at(-1, -2, -3))[:len(n.Extents)]
		room := append(copied(blocks), api.Write{At: 1, Data: []byte{1}})
		for i, w := range room {
			room[i].Data = append(w.Data, 1, 2, 3)[:len(w.Data)]
		}
		kept, keptList := copied(room), slices.Clone(n.Extents[:len(n.Extents)+2])
		want, wanted, _ := readOf(n, blocks)
		first, own, _ := Read(n, room[:len(blocks)])
		second, ownToo, _ := Read(n, room[:len(blocks)])
		clear(first[:cap(first)])
		for i := range own[:cap(own)] {
			own[:cap(own)][i] = -1
		}
		if !equalWrites(room, kept) || !slices.Equal(n.Extents[:len(n.Extents)+2], keptList) {
			t.Errorf("%v: what was handed in is changed: %v %v", file, n, room)
		}
		for _, w := range room {
			if behind := w.Data[len(w.Data) : len(w.Data)+3]; !bytes.Equal(behind, []byte{1, 2, 3}) {
				t.Errorf("%v: behind a block lies %v", file, behind)
			}
			clear(w.Data)
		}
		clear(room)
		clear(n.Extents[:cap(n.Extents)])
		if !slices.Equal(second, want) || !slices.Equal(ownToo, wanted) {
			t.Errorf("%v: answers share memory: %v %v", file, second, ownToo)
		}
	}
}
