package choose

import (
	"bytes"
	"math"
	"slices"
	"testing"

	"drydock/api"
)

const top = api.MaxBlocks

// model holds the flags one by one.
type model [top]bool

func (f *model) bytes() []byte {
	m := make([]byte, 60)
	for block, up := range f {
		if up {
			m[block/8] += []byte{1, 2, 4, 8, 16, 32, 64, 128}[block%8]
		}
	}
	return m
}

// piece is a run of blocks in plain numbers.
type piece struct{ first, count int }

func (p piece) run() complex128 { return complex(float64(p.first), float64(p.count)) }

func runs(list ...piece) []complex128 {
	var all []complex128
	for _, p := range list {
		all = append(all, p.run())
	}
	return all
}

// withGaps is a model of which just these blocks are down.
func withGaps(list ...piece) *model {
	f := &model{}
	for block := range f {
		f[block] = true
	}
	for _, p := range list {
		for at := range p.count {
			f[p.first+at] = false
		}
	}
	return f
}

// gaps are found block by block.
func (f *model) gaps(from, to int) []piece {
	var list []piece
	for block := from; block < to; block++ {
		if f[block] {
			continue
		}
		if block == from || f[block-1] {
			list = append(list, piece{block, 0})
		}
		list[len(list)-1].count++
	}
	return list
}

// first tries each place, and asks for no gaps.
func (f *model) first(n, from, to int) (complex128, api.Errno) {
	for first := from; first+n <= to; first++ {
		if !slices.Contains(f[first:first+n], true) {
			return piece{first, n}.run(), api.OK
		}
	}
	return 0, api.ErrSpace
}

// tight tries each length, and the gaps that have it.
func (f *model) tight(n, from, to int) (complex128, api.Errno) {
	for long := n; long <= top; long++ {
		for _, gap := range f.gaps(from, to) {
			if gap.count == long {
				return piece{gap.first, n}.run(), api.OK
			}
		}
	}
	return 0, api.ErrSpace
}

// some marks the blocks of the longest gaps, and gathers them again.
func (f *model) some(n, from, to int) ([]complex128, api.Errno) {
	list := f.gaps(from, to)
	taken := withGaps()
	for long := top; long > 0; long-- {
		for _, gap := range list {
			if gap.count != long {
				continue
			}
			for at := range min(gap.count, n) {
				taken[gap.first+at] = false
			}
			n -= min(gap.count, n)
		}
	}
	if n > 0 {
		return nil, api.ErrSpace
	}
	return runs(taken.gaps(0, top)...), api.OK
}

// numbers answers the same numbers each time.
func numbers(seed uint32) func(below int) int {
	return func(below int) int {
		seed = seed*1664525 + 1013904223
		return int(seed>>8) % below
	}
}

// someModels are no flags, all, every other one, and mixed ones with gaps of all lengths, many of them equal.
func someModels() []*model {
	none, all, even, odd := &model{}, withGaps(), &model{}, &model{}
	for block := range top {
		even[block], odd[block] = block%2 == 0, block%2 == 1
	}
	list := []*model{none, all, even, odd, withGaps(piece{0, 1}), withGaps(piece{top - 1, 1}), withGaps(piece{0, 9}, piece{top - 9, 9})}
	next := numbers(6)
	for longest := 1; longest < 200; longest += 9 {
		f := &model{}
		up := next(2) == 0
		for block := 0; block < top; up = !up {
			for count := 1 + next(longest); count > 0 && block < top; count-- {
				f[block] = up
				block++
			}
		}
		list = append(list, f)
	}
	return list
}

// roomy is a map with spare room behind it.
func roomy(m []byte) []byte {
	wide := append(slices.Clone(m), bytes.Repeat([]byte{0xA5}, 16)...)
	return wide[:len(m):len(wide)]
}

// checkKept sees that what was handed in, spare room included, is as it was.
func checkKept(t *testing.T, wide, m []byte) {
	t.Helper()
	if !bytes.Equal(wide, m) || !bytes.Equal(wide[:cap(wide)][len(m):], bytes.Repeat([]byte{0xA5}, 16)) {
		t.Fatal("a call changed what was handed in")
	}
}

// checkAll holds all three calls against the model.
func checkAll(t *testing.T, f *model, m []byte, n, from, to int) {
	t.Helper()
	want, wantE := f.first(n, from, to)
	if r, e := First(m, n, from, to); r != want || e != wantE {
		t.Fatalf("First(%v, %d, %d, %d): %v, %d, not %v, %d", m, n, from, to, r, e, want, wantE)
	}
	want, wantE = f.tight(n, from, to)
	if r, e := Tight(m, n, from, to); r != want || e != wantE {
		t.Fatalf("Tight(%v, %d, %d, %d): %v, %d, not %v, %d", m, n, from, to, r, e, want, wantE)
	}
	wants, wantE := f.some(n, from, to)
	list, e := Some(m, n, from, to)
	if !slices.Equal(list, wants) || e != wantE {
		t.Fatalf("Some(%v, %d, %d, %d): %v, %d, not %v, %d", m, n, from, to, list, e, wants, wantE)
	}
	for _, r := range list {
		if math.Signbit(real(r)) || math.Signbit(imag(r)) {
			t.Fatalf("Some(%v, %d, %d, %d): %v has a zero with a sign", m, n, from, to, list)
		}
	}
}

// P6.1
func TestFirst(t *testing.T) {
	m := withGaps(piece{3, 2}, piece{10, 7}, piece{20, 4}, piece{30, 7}, piece{470, 10}).bytes()
	for _, c := range []struct {
		n, from, to int
		want        complex128
		e           api.Errno
	}{
		{1, 0, top, 3 + 1i, api.OK},
		{2, 0, top, 3 + 2i, api.OK},
		{3, 0, top, 10 + 3i, api.OK},
		{2, 4, top, 10 + 2i, api.OK},
		{1, 4, top, 4 + 1i, api.OK},
		{4, 14, top, 20 + 4i, api.OK},
		{7, 0, top, 10 + 7i, api.OK},
		{7, 11, top, 30 + 7i, api.OK},
		{7, 10, 17, 10 + 7i, api.OK},
		{7, 10, 16, 0, api.ErrSpace},
		{8, 0, top, 470 + 8i, api.OK},
		{10, 0, top, 470 + 10i, api.OK},
		{10, 0, top - 1, 0, api.ErrSpace},
		{10, 471, top, 0, api.ErrSpace},
		{11, 0, top, 0, api.ErrSpace},
		{top, 0, top, 0, api.ErrSpace},
		{1, 5, 10, 0, api.ErrSpace},
		{1, 5, 5, 0, api.ErrSpace},
		{1, top, top, 0, api.ErrSpace},
	} {
		if r, e := First(m, c.n, c.from, c.to); r != c.want || e != c.e {
			t.Errorf("First(%d, %d, %d): %v, %d", c.n, c.from, c.to, r, e)
		}
	}
}

// P6.1: the shortest gap that is long enough, and of equal ones the first.
func TestTight(t *testing.T) {
	m := withGaps(piece{3, 2}, piece{10, 7}, piece{20, 4}, piece{30, 7}, piece{40, 4}, piece{470, 10}).bytes()
	for _, c := range []struct {
		n, from, to int
		want        complex128
		e           api.Errno
	}{
		{1, 0, top, 3 + 1i, api.OK},
		{2, 0, top, 3 + 2i, api.OK},
		{3, 0, top, 20 + 3i, api.OK},
		{4, 0, top, 20 + 4i, api.OK},
		{4, 21, top, 40 + 4i, api.OK},
		{5, 0, top, 10 + 5i, api.OK},
		{6, 11, top, 11 + 6i, api.OK},
		{5, 11, top, 11 + 5i, api.OK},
		{7, 11, top, 30 + 7i, api.OK},
		{8, 0, top, 470 + 8i, api.OK},
		{1, 4, top, 4 + 1i, api.OK},
		{2, 4, 42, 40 + 2i, api.OK},
		{1, 4, 41, 4 + 1i, api.OK},
		{1, 5, 41, 40 + 1i, api.OK},
		{11, 0, top, 0, api.ErrSpace},
		{10, 0, top - 1, 0, api.ErrSpace},
		{1, 24, 30, 0, api.ErrSpace},
		{1, 12, 12, 0, api.ErrSpace},
	} {
		if r, e := Tight(m, c.n, c.from, c.to); r != c.want || e != c.e {
			t.Errorf("Tight(%d, %d, %d): %v, %d", c.n, c.from, c.to, r, e)
		}
	}
}

// P6.2: the longest gaps, of equal ones the first one first; the last one in part.
func TestSome(t *testing.T) {
	m := withGaps(piece{3, 2}, piece{10, 7}, piece{20, 4}, piece{30, 7}, piece{40, 4}, piece{470, 10}).bytes()
	for _, c := range []struct {
		n, from, to int
		want        []complex128
		e           api.Errno
	}{
		{1, 0, top, []complex128{470 + 1i}, api.OK},
		{10, 0, top, []complex128{470 + 10i}, api.OK},
		{11, 0, top, []complex128{10 + 1i, 470 + 10i}, api.OK},
		{17, 0, top, []complex128{10 + 7i, 470 + 10i}, api.OK},
		{18, 0, top, []complex128{10 + 7i, 30 + 1i, 470 + 10i}, api.OK},
		{24, 0, top, []complex128{10 + 7i, 30 + 7i, 470 + 10i}, api.OK},
		{25, 0, top, []complex128{10 + 7i, 20 + 1i, 30 + 7i, 470 + 10i}, api.OK},
		{30, 0, top, []complex128{10 + 7i, 20 + 4i, 30 + 7i, 40 + 2i, 470 + 10i}, api.OK},
		{33, 0, top, []complex128{3 + 1i, 10 + 7i, 20 + 4i, 30 + 7i, 40 + 4i, 470 + 10i}, api.OK},
		{34, 0, top, []complex128{3 + 2i, 10 + 7i, 20 + 4i, 30 + 7i, 40 + 4i, 470 + 10i}, api.OK},
		{35, 0, top, nil, api.ErrSpace},
		{top, 0, top, nil, api.ErrSpace},
		{8, 11, 40, []complex128{11 + 1i, 30 + 7i}, api.OK},
		{3, 4, 12, []complex128{4 + 1i, 10 + 2i}, api.OK},
		{4, 4, 12, nil, api.ErrSpace},
		{1, 5, 10, nil, api.ErrSpace},
		{1, 15, 15, nil, api.ErrSpace},
	} {
		if list, e := Some(m, c.n, c.from, c.to); !slices.Equal(list, c.want) || e != c.e {
			t.Errorf("Some(%d, %d, %d): %v, %d", c.n, c.from, c.to, list, e)
		}
	}
}

// P6.1, P6.2: with all blocks down, any number of them may be taken, and with none down no one.
func TestEmptyAndFull(t *testing.T) {
	none, all := &model{}, withGaps()
	for n := 1; n <= top; n++ {
		checkAll(t, none, none.bytes(), n, 0, top)
		checkAll(t, none, none.bytes(), n, 1, top)
		checkAll(t, none, none.bytes(), n, 59, 64)
		checkAll(t, all, all.bytes(), n, 0, top)
	}
	if r, e := First(none.bytes(), top, 0, top); r != (piece{0, top}).run() || e != api.OK {
		t.Errorf("First of all: %v, %d", r, e)
	}
	if r, e := First(none.bytes(), top, 1, top); r != 0 || e != api.ErrSpace {
		t.Errorf("First of more than there are: %v, %d", r, e)
	}
}

// P6.1, P6.2: all flags of nine blocks, at the ends of the device and across bytes.
func TestAllSmall(t *testing.T) {
	const wide = 9
	for _, base := range []int{0, 59, top - wide} {
		for bits := range 1 << wide {
			f := withGaps()
			for at := range wide {
				f[base+at] = bits>>at&1 == 1
			}
			m := f.bytes()
			for n := 1; n <= wide+1; n++ {
				checkAll(t, f, m, n, base, base+wide)
				checkAll(t, f, m, n, base+1, base+wide-2)
				checkAll(t, f, m, n, max(base-9, 0), min(base+wide+9, top))
			}
		}
	}
}

// P6.1, P6.2
func TestMixed(t *testing.T) {
	next := numbers(61)
	for _, f := range someModels() {
		m := f.bytes()
		wide := roomy(m)
		for n := 1; n <= top; n += 1 + n/6 {
			checkAll(t, f, wide, n, 0, top)
			checkAll(t, f, wide, n, api.AtData, top)
			from := next(top + 1)
			checkAll(t, f, wide, n, from, from+next(top+1-from))
		}
		checkKept(t, wide, m)
	}
}

// checkError sees that all three calls answer an error, and nothing beside it.
func checkError(t *testing.T, m []byte, n, from, to int, want api.Errno) {
	t.Helper()
	if r, e := First(m, n, from, to); r != 0 || e != want {
		t.Errorf("First of %d bytes, %d, %d, %d: %v, %d", len(m), n, from, to, r, e)
	}
	if r, e := Tight(m, n, from, to); r != 0 || e != want {
		t.Errorf("Tight of %d bytes, %d, %d, %d: %v, %d", len(m), n, from, to, r, e)
	}
	if list, e := Some(m, n, from, to); list != nil || e != want {
		t.Errorf("Some of %d bytes, %d, %d, %d: %v, %d", len(m), n, from, to, list, e)
	}
}

// noNumbers are no numbers of blocks that may be taken.
func noNumbers() []int {
	return []int{math.MinInt, math.MinInt + 1, math.MinInt32, -1 << 32, -top, -1, 0, top + 1, top + 8, math.MaxInt32, 1 << 32, 1<<32 + 1, math.MaxInt - 1, math.MaxInt}
}

// noParts are no parts of a device.
func noParts() [][2]int {
	return [][2]int{
		{1, 0}, {top, top - 1}, {top, 0}, {8, 7}, {-1, -1}, {-1, -2}, {-1, 5}, {-1, top}, {0, -1},
		{0, top + 1}, {top, top + 1}, {top + 1, top + 1}, {top + 1, top}, {top + 1, 0},
		{math.MinInt, 0}, {math.MinInt, math.MaxInt}, {0, math.MaxInt}, {math.MaxInt, math.MinInt}, {math.MaxInt, math.MaxInt}, {1 << 32, 1<<32 + 5}, {0, 1 << 32},
	}
}

// P6.1, P6.2: no map comes ahead of every other fault.
func TestNoMap(t *testing.T) {
	for _, m := range [][]byte{nil, {}, {0}, make([]byte, 59), make([]byte, 61), make([]byte, api.Block), make([]byte, top), make([]byte, 60)[:59:60], bytes.Repeat([]byte{255}, 61)} {
		for _, n := range append(noNumbers(), 1, 7, top) {
			for _, part := range append(noParts(), [2]int{0, top}, [2]int{0, 0}) {
				checkError(t, m, n, part[0], part[1], api.ErrForm)
			}
		}
	}
}

// P6.1, P6.2: wrong arguments come ahead of little space, and are one error, whichever is wrong.
func TestWrongArguments(t *testing.T) {
	for _, f := range []*model{{}, withGaps(), withGaps(piece{3, 2}, piece{10, 7})} {
		m := f.bytes()
		wide := roomy(m)
		for _, n := range noNumbers() {
			for _, part := range append(noParts(), [2]int{0, top}, [2]int{0, 0}, [2]int{5, 9}, [2]int{top, top}) {
				checkError(t, wide, n, part[0], part[1], api.ErrArg)
			}
		}
		for _, n := range []int{1, 2, 9, top - 1, top} {
			for _, part := range noParts() {
				checkError(t, wide, n, part[0], part[1], api.ErrArg)
			}
		}
		checkKept(t, wide, m)
	}
}

// R4, R5: an answer is new memory, and the same one each time.
func TestAnswersAreNew(t *testing.T) {
	m := withGaps(piece{3, 2}, piece{10, 7}, piece{20, 4}).bytes()
	for range 3 {
		list, e := Some(m, 10, 0, top)
		if e != api.OK || !slices.Equal(list, []complex128{10 + 7i, 20 + 3i}) {
			t.Fatalf("Some: %v, %d", list, e)
		}
		room := list[:cap(list)]
		for i := range room {
			room[i] = -1
		}
	}
}
