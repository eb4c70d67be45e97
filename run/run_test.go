package run

import (
	"math"
	"slices"
	"testing"

	"drydock/api"
)

const top = api.MaxBlocks

func negativeZero() float64 { return math.Copysign(0, -1) }

// unsoundRuns are numbers that are no runs.
func unsoundRuns() []complex128 {
	nan, inf := math.NaN(), math.Inf(1)
	return []complex128{
		0, 5, -1 + 1i, -1 + 2i, 3 - 1i, complex(3, negativeZero()), complex(-5, -5),
		complex(nan, 1), complex(1, nan), complex(nan, nan), complex(inf, 1), complex(1, inf), complex(-inf, inf), complex(inf, -inf),
		0.5 + 1i, 1 + 1.5i, 1 + 0.5i, complex(math.SmallestNonzeroFloat64, 1), complex(1, math.Nextafter(1, 2)), complex(0.5, 2.5),
		complex(top, 1), complex(0, top+1), complex(top-1, 2), complex(top, 0), complex(1, top), complex(1<<53, 1), complex(1, 1<<53),
		complex(math.MaxFloat64, 1), complex(0, math.MaxFloat64), complex(-math.MaxFloat64, math.MaxFloat64),
	}
}

// soundRuns are runs at the ends of a device and inside it.
func soundRuns() []complex128 {
	var list []complex128
	for _, first := range []int{0, 1, 2, 3, 5, 8, 64, 240, top - 3, top - 2, top - 1} {
		for _, count := range []int{1, 2, 3, 4, 7, 240, top - 2, top - 1, top} {
			if first+count <= top {
				list = append(list, complex(float64(first), float64(count)))
			}
		}
	}
	return append(list, complex(negativeZero(), 1), complex(negativeZero(), top))
}

// has tells of a block whether one of the runs has it, by comparing alone.
func has(at int, list ...complex128) bool {
	for _, r := range list {
		if float64(at) >= real(r) && float64(at) < real(r)+imag(r) {
			return true
		}
	}
	return false
}

func signed(z complex128) bool {
	return real(z) == 0 && math.Signbit(real(z)) || imag(z) == 0 && math.Signbit(imag(z))
}

// checkRuns sees that runs are sound, rising and as few as can be, and have just the blocks that are wanted.
func checkRuns(t *testing.T, what string, got []complex128, wanted func(at int) bool) {
	t.Helper()
	end := -1.0
	for _, r := range got {
		if !Sound(r) || signed(r) {
			t.Fatalf("%s: %v is not sound", what, r)
		}
		if real(r) <= end {
			t.Fatalf("%s: %v touches or comes behind the one ahead of it", what, got)
		}
		end = real(r) + imag(r)
	}
	for at := range top {
		if has(at, got...) != wanted(at) {
			t.Fatalf("%s: %v: block %d", what, got, at)
		}
	}
}

// numbers answers the same numbers each time.
func numbers(seed uint32) func(below int) int {
	return func(below int) int {
		seed = seed*1664525 + 1013904223
		return int(seed>>8) % below
	}
}

func anyRuns(next func(below int) int, most, longest int) []complex128 {
	var list []complex128
	for range next(most + 1) {
		first := next(top)
		list = append(list, complex(float64(first), float64(1+next(min(longest, top-first)))))
	}
	return list
}

// P2.1
func TestSound(t *testing.T) {
	for _, r := range soundRuns() {
		if !Sound(r) {
			t.Errorf("%v is not sound", r)
		}
	}
	for _, r := range unsoundRuns() {
		if Sound(r) {
			t.Errorf("%v is sound", r)
		}
	}
}

// P2.1: each number near the device, against the words.
func TestSoundNear(t *testing.T) {
	for first := -3; first <= top+3; first++ {
		for count := -3; count <= top+3; count++ {
			want := first >= 0 && count >= 1 && first+count <= top
			if Sound(complex(float64(first), float64(count))) != want {
				t.Fatalf("Sound of %d and %d: %v", first, count, !want)
			}
			r, e := Of(first, count)
			if want && (e != api.OK || r != complex(float64(first), float64(count))) || !want && (e != api.ErrArg || r != 0) {
				t.Fatalf("Of(%d, %d): %v, %d", first, count, r, e)
			}
		}
	}
}

// P2.1
func TestOfAtTheEnds(t *testing.T) {
	ends := []int{math.MinInt, math.MinInt + 1, -1 << 53, -1, 1<<32 + 1, 1 << 53, math.MaxInt - 1, math.MaxInt}
	for _, x := range ends {
		for _, y := range append([]int{0, 1, top}, ends...) {
			for _, pair := range [][2]int{{x, y}, {y, x}} {
				if r, e := Of(pair[0], pair[1]); r != 0 || e != api.ErrArg {
					t.Errorf("Of(%v): %v, %d", pair, r, e)
				}
			}
		}
	}
}

// P2.1
func TestParts(t *testing.T) {
	for _, r := range soundRuns() {
		first, count, e := Parts(r)
		if first != int(real(r)) || count != int(imag(r)) || e != api.OK {
			t.Errorf("Parts(%v): %d, %d, %d", r, first, count, e)
		}
	}
	for _, r := range unsoundRuns() {
		if first, count, e := Parts(r); first != 0 || count != 0 || e != api.ErrForm {
			t.Errorf("Parts(%v): %d, %d, %d", r, first, count, e)
		}
	}
}

// P2.2
func TestCut(t *testing.T) {
	for _, r := range soundRuns() {
		count := int(imag(r))
		for n := range count + 1 {
			a, b, e := Cut(r, n)
			wantA, wantB := complex(real(r), float64(n)), complex(real(r)+float64(n), float64(count-n))
			if n == 0 {
				wantA = 0
			}
			if n == count {
				wantB = 0
			}
			if a != wantA || b != wantB || e != api.OK || signed(a) || signed(b) {
				t.Fatalf("Cut(%v, %d): %v, %v, %d", r, n, a, b, e)
			}
		}
		for _, n := range []int{-1, count + 1, math.MinInt, math.MaxInt, 1 << 32} {
			if a, b, e := Cut(r, n); a != 0 || b != 0 || e != api.ErrRange {
				t.Fatalf("Cut(%v, %d): %v, %v, %d", r, n, a, b, e)
			}
		}
	}
}

// P2.2, R2: a number that is no run comes ahead of where it is cut.
func TestCutOfNoRun(t *testing.T) {
	for _, r := range unsoundRuns() {
		for _, n := range []int{0, 1, -1, top + 1, math.MinInt, math.MaxInt} {
			if a, b, e := Cut(r, n); a != 0 || b != 0 || e != api.ErrForm {
				t.Errorf("Cut(%v, %d): %v, %v, %d", r, n, a, b, e)
			}
		}
	}
}

// P2.2
func TestMeet(t *testing.T) {
	for _, a := range soundRuns() {
		for _, b := range soundRuns() {
			m := Meet(a, b)
			var got []complex128
			if m != 0 {
				got = []complex128{m}
			}
			if signed(m) {
				t.Fatalf("Meet(%v, %v): %v has a zero with a sign", a, b, m)
			}
			checkRuns(t, "Meet", got, func(at int) bool { return has(at, a) && has(at, b) })
		}
	}
	for _, c := range [][3]complex128{{3 + 4i, 5 + 9i, 5 + 2i}, {3 + 4i, 7 + 1i, 0}, {3 + 4i, 6 + 1i, 6 + 1i}, {0 + 2i, 2 + 2i, 0}, {0 + 1i, 0 + 1i, 0 + 1i}, {9 + 1i, 3 + 9i, 9 + 1i}} {
		if m := Meet(c[0], c[1]); m != c[2] {
			t.Errorf("Meet(%v, %v): %v", c[0], c[1], m)
		}
	}
}

// P2.2
func TestMeetOfNoRun(t *testing.T) {
	for _, a := range unsoundRuns() {
		for _, b := range append(unsoundRuns(), soundRuns()...) {
			if m, n := Meet(a, b), Meet(b, a); m != 0 || n != 0 || signed(m) || signed(n) {
				t.Fatalf("Meet of %v and %v: %v, %v", a, b, m, n)
			}
		}
	}
}

// P2.3
func TestJoin(t *testing.T) {
	for i, c := range []struct{ list, want []complex128 }{
		{nil, nil},
		{[]complex128{7 + 2i, 3 + 4i, 20 + 1i}, []complex128{3 + 6i, 20 + 1i}},
		{[]complex128{5 + 1i}, []complex128{5 + 1i}},
		{[]complex128{5 + 1i, 5 + 1i, 5 + 1i}, []complex128{5 + 1i}},
		{[]complex128{5 + 1i, 7 + 1i}, []complex128{5 + 1i, 7 + 1i}},
		{[]complex128{7 + 1i, 5 + 1i, 6 + 1i}, []complex128{5 + 3i}},
		{[]complex128{complex(top-1, 1), complex(negativeZero(), 1)}, []complex128{0 + 1i, complex(top-1, 1)}},
		{[]complex128{complex(0, top), 9 + 1i}, []complex128{complex(0, top)}},
		{[]complex128{complex(240, 240), complex(0, 240)}, []complex128{complex(0, top)}},
	} {
		if got, e := Join(c.list...); e != api.OK || !slices.Equal(got, c.want) {
			t.Errorf("%d: %v, %d", i, got, e)
		}
	}
}

// P2.3
func TestJoinOfMany(t *testing.T) {
	next := numbers(1)
	for _, longest := range []int{1, 3, 20, top} {
		for _, most := range []int{2, 10, 80, 400} {
			for range 20 {
				list := anyRuns(next, most, longest)
				got, e := Join(list...)
				if e != api.OK {
					t.Fatalf("Join(%v): %d", list, e)
				}
				checkRuns(t, "Join", got, func(at int) bool { return has(at, list...) })
			}
		}
	}
}

// P2.3
func TestWithout(t *testing.T) {
	for i, c := range []struct {
		r          complex128
		list, want []complex128
	}{
		{3 + 6i, []complex128{4 + 2i}, []complex128{3 + 1i, 6 + 3i}},
		{3 + 6i, nil, []complex128{3 + 6i}},
		{complex(negativeZero(), 6), nil, []complex128{6i}},
		{3 + 6i, []complex128{3 + 6i}, nil},
		{3 + 6i, []complex128{0 + 3i, 9 + 1i}, []complex128{3 + 6i}},
		{3 + 6i, []complex128{8 + 9i, 0 + 4i}, []complex128{4 + 4i}},
		{3 + 6i, []complex128{5 + 1i, 5 + 1i, 7 + 1i}, []complex128{3 + 2i, 6 + 1i, 8 + 1i}},
		{complex(0, top), []complex128{0 + 1i, complex(top-1, 1)}, []complex128{complex(1, top-2)}},
		{complex(top-1, 1), []complex128{complex(0, top)}, nil},
	} {
		if got, e := Without(c.r, c.list...); e != api.OK || !slices.Equal(got, c.want) {
			t.Errorf("%d: %v, %d", i, got, e)
		}
	}
}

// P2.3
func TestWithoutMany(t *testing.T) {
	next := numbers(2)
	for _, r := range soundRuns() {
		for _, longest := range []int{1, 9, top} {
			for _, most := range []int{3, 60, 300} {
				list := anyRuns(next, most, longest)
				got, e := Without(r, list...)
				if e != api.OK {
					t.Fatalf("Without(%v, %v): %d", r, list, e)
				}
				checkRuns(t, "Without", got, func(at int) bool { return has(at, r) && !has(at, list...) })
			}
		}
	}
}

// P2.3, R3
func TestListsOfNoRuns(t *testing.T) {
	for _, bad := range unsoundRuns() {
		for _, list := range [][]complex128{{bad}, {bad, 1i}, {1i, bad}, {3 + 2i, bad, 1i}} {
			if got, e := Join(list...); len(got) != 0 || e != api.ErrForm {
				t.Errorf("Join(%v): %v, %d", list, got, e)
			}
			if got, e := Without(1i, list...); len(got) != 0 || e != api.ErrForm {
				t.Errorf("Without(i, %v): %v, %d", list, got, e)
			}
		}
		if got, e := Without(bad); len(got) != 0 || e != api.ErrForm {
			t.Errorf("Without(%v): %v, %d", bad, got, e)
		}
		if got, e := Without(bad, 1i); len(got) != 0 || e != api.ErrForm {
			t.Errorf("Without(%v, i): %v, %d", bad, got, e)
		}
	}
}

// P2.3, R2: how many there are comes ahead of what they are.
func TestHowManyRuns(t *testing.T) {
	list := make([]complex128, api.MaxList)
	for i := range list {
		list[i] = complex(float64(2*i%top), 1)
	}
	if got, e := Join(list...); e != api.OK || len(got) != top/2 {
		t.Errorf("Join of MaxList: %v, %d", got, e)
	}
	if got, e := Without(complex(0, top), list...); e != api.OK || len(got) != top/2 {
		t.Errorf("Without MaxList: %v, %d", got, e)
	}
	list[api.MaxList-1] = 0
	if _, e := Join(list...); e != api.ErrForm {
		t.Errorf("Join of MaxList, one no run: %d", e)
	}
	if _, e := Without(1i, list...); e != api.ErrForm {
		t.Errorf("Without MaxList, one no run: %d", e)
	}
	for _, last := range []complex128{1i, 0, complex(math.NaN(), 1)} {
		more := append(slices.Clone(list), last)
		if got, e := Join(more...); len(got) != 0 || e != api.ErrArg {
			t.Errorf("Join of more: %v, %d", got, e)
		}
		for _, r := range []complex128{1i, 0} {
			if got, e := Without(r, more...); len(got) != 0 || e != api.ErrArg {
				t.Errorf("Without(%v) more: %v, %d", r, got, e)
			}
		}
	}
}

// R4
func TestMemoryOfLists(t *testing.T) {
	room := []complex128{7 + 2i, 3 + 4i, 20 + 1i, 99, 98, 97}
	before := slices.Clone(room)
	list := room[:3]
	joined, _ := Join(list...)
	rest, _ := Without(3+6i, list...)
	again, _ := Join(list...)
	scribble(joined)
	scribble(rest)
	if !slices.Equal(room, before) {
		t.Errorf("what was handed in is changed: %v", room)
	}
	if !slices.Equal(again, []complex128{3 + 6i, 20 + 1i}) {
		t.Errorf("an answer is changed: %v", again)
	}
	if joined, _ = Join(list...); !slices.Equal(joined, again) {
		t.Errorf("a second answer: %v", joined)
	}
}

func scribble(list []complex128) {
	for i := range list[:cap(list)] {
		list[:cap(list)][i] = -7
	}
}
