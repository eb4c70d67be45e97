package flags

import (
	"bytes"
	"math"
	"slices"
	"testing"

	"drydock/api"
)

const top = api.MaxBlocks

// model holds the flags one by one.
type model [top]bool

// worth is what a block's bit is worth in its byte.
func worth(block int) byte {
	return []byte{1, 2, 4, 8, 16, 32, 64, 128}[block%8]
}

func (f *model) bytes() []byte {
	m := make([]byte, 60)
	for block, up := range f {
		if up {
			m[block/8] += worth(block)
		}
	}
	return m
}

func modelOf(m []byte) *model {
	f := &model{}
	for block := range f {
		f[block] = m[block/8]/worth(block)%2 == 1
	}
	return f
}

// numbers answers the same numbers each time.
func numbers(seed uint32) func(below int) int {
	return func(below int) int {
		seed = seed*1664525 + 1013904223
		return int(seed>>8) % below
	}
}

// someModels are no flags, all, each alone, all but one, every other one, and mixed ones with gaps of all lengths.
func someModels() []*model {
	none, all, even, odd := &model{}, &model{}, &model{}, &model{}
	for block := range top {
		all[block] = true
		even[block], odd[block] = block%2 == 0, block%2 == 1
	}
	list := []*model{none, all, even, odd}
	for _, block := range []int{0, 1, 6, 7, 8, 9, 15, 16, 63, 64, 239, 240, 471, 472, top - 2, top - 1} {
		one, but := *none, *all
		one[block], but[block] = true, false
		list = append(list, &one, &but)
	}
	next := numbers(5)
	for longest := 1; longest < 200; longest += 9 {
		f := &model{}
		up := next(2) == 0
		for block := 0; block < top; up = !up {
			for count := 1 + next(longest); count > 0 && block < top; count-- {
				f[block] = up
				block++
			}
		}
		list = append(list, f)
	}
	return list
}

// noMaps have not 60 bytes.
func noMaps() [][]byte {
	return [][]byte{nil, {}, {0}, make([]byte, 59), make([]byte, 61), make([]byte, api.Block), make([]byte, top), make([]byte, 60)[:59:60]}
}

// noBlocks are far from any device's blocks.
func noBlocks() []int {
	return []int{math.MinInt, math.MinInt + 1, math.MinInt32, -1 << 32, -top, -8, -1, top + 1, top + 8, 512, math.MaxInt32, 1 << 32, 1<<32 + 1, math.MaxInt - 1, math.MaxInt}
}

// noRuns are numbers that are no runs.
func noRuns() []complex128 {
	nan, inf := math.NaN(), math.Inf(1)
	return []complex128{
		0, 5, -1 + 1i, 3 - 1i, 0.5 + 1i, 1 + 1.5i, complex(3, math.Copysign(0, -1)),
		complex(nan, 1), complex(1, nan), complex(nan, nan), complex(inf, 1), complex(1, inf), complex(-inf, inf),
		complex(top, 1), complex(0, top+1), complex(top-1, 2), complex(top, 0), complex(1, top),
		complex(math.MaxFloat64, 1), complex(0, math.MaxFloat64), complex(1<<32, 1), complex(0, 1<<32),
	}
}

// has tells of a block whether one of the runs has it, by comparing alone.
func has(block int, runs ...complex128) bool {
	for _, r := range runs {
		if float64(block) >= real(r) && float64(block) < real(r)+imag(r) {
			return true
		}
	}
	return false
}

// roomy is a map with spare room behind it.
func roomy(m []byte) []byte {
	wide := append(slices.Clone(m), bytes.Repeat([]byte{0xA5}, 16)...)
	return wide[:len(m):len(wide)]
}

// checkKept sees that what was handed in, spare room included, is as it was.
func checkKept(t *testing.T, what string, wide, m []byte) {
	t.Helper()
	if !bytes.Equal(wide, m) || !bytes.Equal(wide[:cap(wide)][len(m):], bytes.Repeat([]byte{0xA5}, 16)) {
		t.Fatalf("%s changed what was handed in", what)
	}
}

// P5.1
func TestNew(t *testing.T) {
	m := New()
	if !bytes.Equal(m, make([]byte, 60)) {
		t.Fatalf("New: %v", m)
	}
	for block := range top {
		if up, e := Up(m, block); up || e != api.OK {
			t.Errorf("block %d is up: %v, %d", block, up, e)
		}
	}
	wide := m[:cap(m)]
	for i := range wide {
		wide[i] = 255
	}
	if other := New(); !bytes.Equal(other[:cap(other)], make([]byte, cap(other))) {
		t.Error("two new maps share memory")
	}
}

// P5.1: bit n modulo 8 of byte n / 8.
func TestUpOfOneBit(t *testing.T) {
	for block := range top {
		m := make([]byte, 60)
		m[block/8] = worth(block)
		for at := range top {
			if up, e := Up(m, at); up != (at == block) || e != api.OK {
				t.Fatalf("Up of %d with %d up: %v, %d", at, block, up, e)
			}
		}
	}
}

// P5.1
func TestUp(t *testing.T) {
	for _, f := range someModels() {
		m := f.bytes()
		wide := roomy(m)
		for block, want := range f {
			if up, e := Up(wide, block); up != want || e != api.OK {
				t.Fatalf("Up(%v, %d): %v, %d", m, block, up, e)
			}
		}
		for _, block := range append(noBlocks(), top) {
			if up, e := Up(wide, block); up || e != api.ErrArg {
				t.Errorf("Up(%v, %d): %v, %d", m, block, up, e)
			}
		}
		checkKept(t, "Up", wide, m)
	}
}

// P5.1
func TestCount(t *testing.T) {
	for _, f := range someModels() {
		m := f.bytes()
		wide := roomy(m)
		want := 0
		for to := range top + 1 {
			if n, e := Count(wide, to); n != want || e != api.OK {
				t.Fatalf("Count(%v, %d): %d, %d, not %d", m, to, n, e, want)
			}
			if to < top && f[to] {
				want++
			}
		}
		for _, to := range noBlocks() {
			if n, e := Count(wide, to); n != 0 || e != api.ErrArg {
				t.Errorf("Count(%v, %d): %d, %d", m, to, n, e)
			}
		}
		checkKept(t, "Count", wide, m)
	}
}

// P5.1 to P5.3: no map comes ahead of every other fault.
func TestNoMap(t *testing.T) {
	for _, m := range noMaps() {
		for _, block := range append(noBlocks(), 0, 7, top-1, top) {
			if up, e := Up(m, block); up || e != api.ErrForm {
				t.Errorf("Up of %d bytes, %d: %v, %d", len(m), block, up, e)
			}
			if n, e := Count(m, block); n != 0 || e != api.ErrForm {
				t.Errorf("Count of %d bytes, %d: %d, %d", len(m), block, n, e)
			}
			for _, to := range []int{-1, 0, block, top, top + 1} {
				if gaps, e := Down(m, block, to); gaps != nil || e != api.ErrForm {
					t.Errorf("Down of %d bytes, %d, %d: %v, %d", len(m), block, to, gaps, e)
				}
			}
		}
		for _, r := range append(noRuns(), 1i, 7+2i, complex(0, top)) {
			for _, up := range []bool{true, false} {
				if got, e := Mark(m, up, r); got != nil || e != api.ErrForm {
					t.Errorf("Mark of %d bytes, %v: %v, %d", len(m), r, got, e)
				}
			}
		}
		if got, e := Mark(m, true); got != nil || e != api.ErrForm {
			t.Errorf("Mark of %d bytes and no runs: %v, %d", len(m), got, e)
		}
	}
}

// P5.2: each run alone, at the ends of bytes and of the device.
func TestMarkOneRun(t *testing.T) {
	for _, f := range someModels()[:6] {
		m := f.bytes()
		for first := range top {
			for _, count := range []int{1, 2, 3, 7, 8, 9, 16, 17, 100, top - first - 1, top - first} {
				if count < 1 || first+count > top {
					continue
				}
				checkMark(t, m, true, complex(float64(first), float64(count)))
				checkMark(t, m, false, complex(float64(first), float64(count)))
			}
		}
	}
}

// checkMark holds Mark against the runs' blocks one by one.
func checkMark(t *testing.T, m []byte, up bool, runs ...complex128) {
	t.Helper()
	wide, list := roomy(m), slices.Clone(runs)
	got, e := Mark(wide, up, list...)
	want := modelOf(m)
	for block := range want {
		if has(block, runs...) {
			want[block] = up
		}
	}
	if e != api.OK || !bytes.Equal(got, want.bytes()) {
		t.Fatalf("Mark(%v, %v, %v): %v, %d", m, up, runs, got, e)
	}
	checkKept(t, "Mark", wide, m)
	if !slices.Equal(list, runs) {
		t.Fatalf("Mark(%v, %v, %v) changed the runs", m, up, runs)
	}
	room := got[:cap(got)]
	for i := range room {
		room[i]++
	}
	checkKept(t, "what Mark answered", wide, m)
}

// P5.2: any number of runs, that may meet each other and be in any order.
func TestMarkRuns(t *testing.T) {
	next := numbers(52)
	for _, f := range someModels() {
		m := f.bytes()
		checkMark(t, m, true)
		checkMark(t, m, false)
		checkMark(t, m, true, 7+2i, 7+2i, 3+4i, 5+3i)
		checkMark(t, m, false, 470+10i, 0+1i, complex(math.Copysign(0, -1), 9))
		for range 10 {
			var runs []complex128
			for range next(12) {
				first := next(top)
				runs = append(runs, complex(float64(first), float64(1+next(min(top-first, 60)))))
			}
			checkMark(t, m, true, runs...)
			checkMark(t, m, false, runs...)
		}
	}
}

// P5.2: no limit is told for how many runs there are.
func TestMarkManyRuns(t *testing.T) {
	runs := make([]complex128, 3*api.MaxList+1)
	for i := range runs {
		runs[i] = complex(float64(i*7%top), 1)
	}
	checkMark(t, New(), true, runs...)
	checkMark(t, bytes.Repeat([]byte{255}, 60), false, runs...)
}

// P5.2: one run that is not sound, wherever it stands.
func TestMarkNoRun(t *testing.T) {
	for _, r := range noRuns() {
		for _, runs := range [][]complex128{{r}, {r, 1 + 1i}, {1 + 1i, r}, {0 + 480i, r, 1 + 1i}, {r, r}} {
			for _, m := range [][]byte{New(), bytes.Repeat([]byte{255}, 60), bytes.Repeat([]byte{0x5A}, 60)} {
				for _, up := range []bool{true, false} {
					wide := roomy(m)
					if got, e := Mark(wide, up, runs...); got != nil || e != api.ErrArg {
						t.Errorf("Mark(%v, %v): %v, %d", up, runs, got, e)
					}
					checkKept(t, "Mark", wide, m)
				}
			}
		}
	}
}

// checkDown sees that runs are sound, rising and as few as can be, and have just the blocks that are down.
func checkDown(t *testing.T, f *model, m []byte, from, to int) {
	t.Helper()
	gaps, e := Down(m, from, to)
	if e != api.OK {
		t.Fatalf("Down(%v, %d, %d): %d", m, from, to, e)
	}
	end := -1.0
	for _, r := range gaps {
		if real(r) <= end || imag(r) < 1 || real(r) == 0 && math.Signbit(real(r)) {
			t.Fatalf("Down(%v, %d, %d): %v: not rising, or more than need be", m, from, to, gaps)
		}
		end = real(r) + imag(r)
	}
	at := 0
	for block := range top {
		for at < len(gaps) && real(gaps[at])+imag(gaps[at]) <= float64(block) {
			at++
		}
		in := at < len(gaps) && real(gaps[at]) <= float64(block)
		if in != (block >= from && block < to && !f[block]) {
			t.Fatalf("Down(%v, %d, %d): %v: block %d", m, from, to, gaps, block)
		}
	}
	if end > float64(to) {
		t.Fatalf("Down(%v, %d, %d): %v: above the end", m, from, to, gaps)
	}
}

// P5.3
func TestDown(t *testing.T) {
	next := numbers(53)
	for _, f := range someModels() {
		m := f.bytes()
		wide := roomy(m)
		for _, from := range []int{0, 1, 7, 8, 9, 64, 241, top - 8, top - 1, top} {
			for _, to := range []int{0, 1, 7, 8, 9, 64, 65, 242, top - 7, top - 1, top} {
				if from <= to {
					checkDown(t, f, wide, from, to)
				}
			}
		}
		for range 300 {
			from := next(top + 1)
			checkDown(t, f, wide, from, from+next(top+1-from))
		}
		checkKept(t, "Down", wide, m)
	}
}

// P5.3: the runs are the same ones each time, in new memory.
func TestDownPlain(t *testing.T) {
	m, e := Mark(New(), true, 0+3i, 5+1i, 478+2i)
	if e != api.OK {
		t.Fatal(e)
	}
	gaps, e := Down(m, 0, top)
	if e != api.OK || !slices.Equal(gaps, []complex128{3 + 2i, 6 + 472i}) {
		t.Fatalf("Down: %v, %d", gaps, e)
	}
	room := gaps[:cap(gaps)]
	for i := range room {
		room[i] = -1
	}
	if gaps, e = Down(m, 4, 8); e != api.OK || !slices.Equal(gaps, []complex128{4 + 1i, 6 + 2i}) {
		t.Errorf("Down of a part: %v, %d", gaps, e)
	}
	for _, part := range [][2]int{{0, 0}, {4, 4}, {0, 3}, {5, 6}, {478, top}, {top, top}} {
		if gaps, e := Down(m, part[0], part[1]); len(gaps) != 0 || e != api.OK {
			t.Errorf("Down(%v): %v, %d", part, gaps, e)
		}
	}
}

// P5.3
func TestDownNoPart(t *testing.T) {
	parts := [][2]int{{1, 0}, {top, top - 1}, {top, 0}, {-1, -1}, {top + 1, top + 1}, {8, 7}, {-1, -2}, {math.MaxInt, math.MinInt}}
	for _, n := range noBlocks() {
		parts = append(parts, [2]int{n, n}, [2]int{n, 0}, [2]int{n, top}, [2]int{0, n}, [2]int{top, n}, [2]int{5, n}, [2]int{n, 5})
	}
	for _, f := range someModels() {
		m := f.bytes()
		for _, part := range parts {
			if gaps, e := Down(m, part[0], part[1]); gaps != nil || e != api.ErrArg {
				t.Errorf("Down(%v): %v, %d", part, gaps, e)
			}
		}
	}
}
