package extent

import (
	"math"
	"slices"
	"testing"

	"drydock/api"
	"drydock/node"
)

// at is the extent of so many blocks from a first one on.
func at(place, first, count int) api.Extent {
	return api.Extent{At: place, Run: complex(float64(first), float64(count))}
}

// arePointers holds every two numbers against each other.
func arePointers(list []int) bool {
	for i, n := range list {
		if n != 0 && (n < 59 || n > 479 || slices.Contains(list[:i], n)) {
			return false
		}
	}
	return len(list) <= 96
}

// isRun takes runs of data blocks alone.
func isRun(r complex128) bool {
	first, count := real(r), imag(r)
	return first == math.Floor(first) && count == math.Floor(count) && first >= 59 && count >= 1 && first+count <= 480
}

// isSound says the document's words one by one, of every two extents.
func isSound(list []api.Extent) bool {
	if len(list) > 96 {
		return false
	}
	for i, x := range list {
		if !isRun(x.Run) || x.At < 0 || x.At > 96 || x.At+int(imag(x.Run)) > 96 {
			return false
		}
		for _, y := range list[:i] {
			if real(x.Run) < real(y.Run)+imag(y.Run) && real(y.Run) < real(x.Run)+imag(x.Run) {
				return false
			}
		}
		if i == 0 {
			continue
		}
		ahead := list[i-1]
		end := ahead.At + int(imag(ahead.Run))
		if x.At < end || x.At == end && real(x.Run) == real(ahead.Run)+imag(ahead.Run) {
			return false
		}
	}
	return true
}

// extentsOf goes from pointer to pointer, and lets the last extent grow.
func extentsOf(pointers []int) []api.Extent {
	var list []api.Extent
	ahead := 0
	for k, p := range pointers {
		switch {
		case p == 0:
		case ahead != 0 && p == ahead+1:
			list[len(list)-1].Run += 1i
		default:
			list = append(list, at(k, p, 1))
		}
		ahead = p
	}
	return list
}

// pointersOf are all 96 pointers of sound extents.
func pointersOf(list []api.Extent) []int {
	all := make([]int, 96)
	for _, x := range list {
		for i := range int(imag(x.Run)) {
			all[x.At+i] = int(real(x.Run)) + i
		}
	}
	return all
}

func zeros(list []int) []int {
	for len(list) > 0 && list[len(list)-1] == 0 {
		list = list[:len(list)-1]
	}
	return list
}

func put(list []api.Extent, place int, r complex128) ([]api.Extent, api.Errno) {
	if !isSound(list) {
		return nil, api.ErrForm
	}
	if place < 0 || !isSound([]api.Extent{{At: place, Run: r}}) {
		return nil, api.ErrArg
	}
	all := pointersOf(list)
	first, count := int(real(r)), int(imag(r))
	for k, p := range all {
		over := k >= place && k < place+count
		if !over && p >= first && p < first+count {
			return nil, api.ErrThere
		}
	}
	for i := range count {
		all[place+i] = first + i
	}
	return extentsOf(all), api.OK
}

func cut(list []api.Extent, n int) ([]api.Extent, []complex128, api.Errno) {
	if !isSound(list) {
		return nil, nil, api.ErrForm
	}
	if n < 0 || n > 96 {
		return nil, nil, api.ErrArg
	}
	all := pointersOf(list)
	var runs []complex128
	for _, x := range extentsOf(all[n:]) {
		runs = append(runs, x.Run)
	}
	return extentsOf(all[:n]), runs, api.OK
}

// ints are numbers round all ends of what is sound, those that look sound when they are cut to fewer bytes, and the ends of what an int is.
func ints() []int {
	return []int{
		math.MinInt, math.MinInt + 1, math.MinInt32, -65535, -480, -96, -59, -2, -1, 0, 1, 2, 3, 30, 57, 58, 59, 60, 61, 93, 94, 95, 96, 97, 98, 255, 256, 257, 478, 479, 480, 481,
		65535, 65536, 65536 + 59, 1<<24 + 60, math.MaxInt32, 1 << 32, 1<<32 + 60, math.MaxInt - 95, math.MaxInt - 1, math.MaxInt,
	}
}

// noRuns are numbers that are no runs of data blocks.
func noRuns() []complex128 {
	nan, inf, zero := math.NaN(), math.Inf(1), math.Copysign(0, -1)
	return []complex128{
		0, 60, 1i, 60i, 58 + 1i, 58 + 2i, 57 + 3i, 0 + 480i, 1 + 1i, 480 + 1i, 479 + 2i, 478 + 3i, 481 + 1i, 60 - 1i, -60 + 1i, -60 - 1i, complex(60, zero), complex(zero, 1), complex(zero, zero),
		60.5 + 1i, 60 + 1.5i, 60.5 + 1.5i, 59.99999 + 1i, complex(math.Nextafter(59, 0), 1), complex(60, math.Nextafter(1, 2)), complex(60, 0.5), complex(60, math.SmallestNonzeroFloat64),
		complex(nan, 1), complex(60, nan), complex(nan, nan), complex(inf, 1), complex(60, inf), complex(-inf, inf), complex(inf, inf), complex(nan, inf), complex(inf, -inf),
		complex(1<<20, 1), complex(60, 1<<20), complex(1<<32+60, 1), complex(60, 1<<32+1), complex(1<<53, 1<<53), complex(math.MaxFloat64, 1), complex(60, math.MaxFloat64), complex(-math.MaxFloat64, math.MaxFloat64),
	}
}

// runsRound are runs that are data blocks, and some that nearly are.
func runsRound() []complex128 {
	var list []complex128
	for _, first := range []int{58, 59, 60, 61, 64, 100, 383, 384, 385, 478, 479} {
		for _, count := range []int{0, 1, 2, 3, 94, 95, 96, 97, 421, 422} {
			list = append(list, at(0, first, count).Run)
		}
	}
	return append(list, noRuns()...)
}

// someLists are sound extents: none, few, as many as can be, with holes and without, to both ends of the file and of the device.
func someLists() [][]api.Extent {
	var single, apart []api.Extent
	for k := range 96 {
		single = append(single, at(k, 479-k, 1))
		if k%3 == 1 {
			apart = append(apart, at(k, 100+k, 2))
		}
	}
	return [][]api.Extent{
		nil, {}, {at(0, 59, 1)}, {at(95, 479, 1)}, {at(0, 59, 96)}, {at(0, 384, 96)}, {at(1, 60, 95)}, {at(40, 200, 10)},
		{at(0, 60, 2), at(3, 62, 1), at(4, 80, 1)}, {at(0, 61, 1), at(1, 60, 1), at(2, 62, 3), at(94, 300, 2)}, {at(0, 478, 2), at(2, 59, 94)}, {at(5, 60, 5), at(10, 70, 5), at(20, 75, 5)},
		{at(3, 70, 4), at(8, 74, 4)}, {at(10, 70, 10), at(20, 60, 10)}, single, apart, single[:95], single[1:], apart[3:9],
	}
}

// unsoundLists are not sound, each for a reason of its own.
func unsoundLists() [][]api.Extent {
	single := someLists()[14]
	return [][]api.Extent{
		{{}}, {at(0, 0, 0)}, {at(0, 60, 0)}, {at(-1, 60, 1)}, {at(-1, 60, 2)}, {at(96, 60, 1)}, {at(95, 60, 2)}, {at(0, 60, 97)}, {at(0, 58, 1)}, {at(0, 58, 2)}, {at(0, 480, 1)}, {at(0, 479, 2)},
		{at(0, 60, 2), at(2, 62, 1)}, {at(0, 60, 2), at(1, 70, 1)}, {at(0, 60, 2), at(1, 61, 1)}, {at(0, 60, 2), at(0, 60, 2)}, {at(0, 60, 2), at(5, 61, 1)}, {at(0, 60, 2), at(2, 60, 1)}, {at(5, 60, 1), at(0, 70, 1)},
		{at(0, 60, 5), at(10, 64, 5)}, {at(0, 60, 5), at(10, 56, 5)}, {at(0, 60, 5), at(10, 61, 3)}, {at(0, 61, 3), at(10, 60, 5)}, {at(0, 60, 1), at(2, 80, 1), at(4, 60, 1)}, {at(0, 60, 1), {}}, {{}, at(0, 60, 1)},
		append(slices.Clone(single), at(95, 60, 1)), append(slices.Clone(single), api.Extent{}), append(slices.Clone(single), single[95]), make([]api.Extent, 96), make([]api.Extent, 97), make([]api.Extent, 100000),
		{at(math.MaxInt, 60, 1)}, {at(math.MaxInt-1, 60, 2)}, {at(math.MaxInt, 60, 96)}, {at(math.MinInt, 60, 1)}, {at(math.MinInt, 60, 96)}, {at(1<<32, 60, 1)}, {{At: 0, Run: complex(math.NaN(), 1)}},
	}
}

// numbers answers the same numbers each time.
func numbers(seed uint32) func(below int) int {
	return func(below int) int {
		seed = seed*1664525 + 1013904223
		return int(seed>>8) % below
	}
}

func judges(t *testing.T, list []api.Extent) {
	t.Helper()
	if got := Sound(list); got != isSound(list) {
		t.Fatalf("Sound(%v): %v", list, got)
	}
}

// froms holds From, and what undoes it, against the words.
func froms(t *testing.T, pointers []int) {
	t.Helper()
	list, e := From(pointers)
	if !arePointers(pointers) {
		if list != nil || e != api.ErrArg {
			t.Fatalf("From(%v): %v %d", pointers, list, e)
		}
		return
	}
	if want := extentsOf(pointers); !slices.Equal(list, want) || e != api.OK {
		t.Fatalf("From(%v): %v %d, not %v", pointers, list, e, want)
	}
	if !isSound(list) || !Sound(list) {
		t.Fatalf("From(%v): %v is not sound", pointers, list)
	}
	if again, e := To(list); !slices.Equal(again, zeros(pointers)) || e != api.OK {
		t.Fatalf("To of From(%v): %v %d", pointers, again, e)
	}
}

// tos holds To, and what undoes it, against the words.
func tos(t *testing.T, list []api.Extent) {
	t.Helper()
	pointers, e := To(list)
	if !isSound(list) {
		if pointers != nil || e != api.ErrForm {
			t.Fatalf("To(%v): %v %d", list, pointers, e)
		}
		return
	}
	if want := zeros(pointersOf(list)); !slices.Equal(pointers, want) || e != api.OK {
		t.Fatalf("To(%v): %v %d, not %v", list, pointers, e, want)
	}
	if again, e := From(pointers); !slices.Equal(again, list) || e != api.OK {
		t.Fatalf("From of To(%v): %v %d", list, again, e)
	}
}

func finds(t *testing.T, list []api.Extent, block int) {
	t.Helper()
	want, f := 0, api.OK
	if !isSound(list) {
		f = api.ErrForm
	} else if block < 0 || block > 95 {
		f = api.ErrArg
	} else {
		want = pointersOf(list)[block]
	}
	if n, e := Find(list, block); n != want || e != f {
		t.Fatalf("Find(%v, %d): %d %d, not %d %d", list, block, n, e, want, f)
	}
}

func puts(t *testing.T, list []api.Extent, place int, r complex128) ([]api.Extent, api.Errno) {
	t.Helper()
	got, e := Put(list, place, r)
	want, f := put(list, place, r)
	if !slices.Equal(got, want) || e != f || e != api.OK && got != nil {
		t.Fatalf("Put(%v, %d, %v): %v %d, not %v %d", list, place, r, got, e, want, f)
	}
	if !isSound(got) {
		t.Fatalf("Put(%v, %d, %v): %v is not sound", list, place, r, got)
	}
	return got, e
}

func cuts(t *testing.T, list []api.Extent, n int) ([]api.Extent, []complex128, api.Errno) {
	t.Helper()
	got, runs, e := Cut(list, n)
	want, wanted, f := cut(list, n)
	if !slices.Equal(got, want) || !slices.Equal(runs, wanted) || e != f || e != api.OK && (got != nil || runs != nil) {
		t.Fatalf("Cut(%v, %d): %v %v %d, not %v %v %d", list, n, got, runs, e, want, wanted, f)
	}
	return got, runs, e
}

// P12.1: the chapter's example.
func TestExample(t *testing.T) {
	want := []api.Extent{{At: 0, Run: 60 + 2i}, {At: 3, Run: 62 + 1i}, {At: 4, Run: 80 + 1i}}
	list, e := From([]int{60, 61, 0, 62, 80})
	if !slices.Equal(list, want) || e != api.OK || !Sound(want) {
		t.Errorf("From: %v %d", list, e)
	}
	if p, e := To(want); !slices.Equal(p, []int{60, 61, 0, 62, 80}) || e != api.OK {
		t.Errorf("To: %v %d", p, e)
	}
	for block, where := range []int{60, 61, 0, 62, 80, 0} {
		if n, e := Find(want, block); n != where || e != api.OK {
			t.Errorf("Find of %d: %d %d", block, n, e)
		}
	}
}

// P12.2: answers written out.
func TestPutAndCutPlain(t *testing.T) {
	list := []api.Extent{{At: 0, Run: 60 + 2i}, {At: 3, Run: 62 + 1i}, {At: 4, Run: 80 + 1i}}
	for i, c := range []struct {
		place int
		r     complex128
		want  []api.Extent
		e     api.Errno
	}{
		{2, 62 + 1i, nil, api.ErrThere}, {2, 62 + 2i, []api.Extent{{At: 0, Run: 60 + 4i}, {At: 4, Run: 80 + 1i}}, api.OK},
		{2, 70 + 1i, []api.Extent{{At: 0, Run: 60 + 2i}, {At: 2, Run: 70 + 1i}, {At: 3, Run: 62 + 1i}, {At: 4, Run: 80 + 1i}}, api.OK},
		{1, 70 + 3i, []api.Extent{{At: 0, Run: 60 + 1i}, {At: 1, Run: 70 + 3i}, {At: 4, Run: 80 + 1i}}, api.OK},
		{0, 60 + 2i, list, api.OK}, {0, 61 + 1i, nil, api.ErrThere}, {0, 61 + 2i, nil, api.ErrThere}, {0, 61 + 4i, []api.Extent{{At: 0, Run: 61 + 4i}, {At: 4, Run: 80 + 1i}}, api.OK},
		{95, 200 + 1i, append(slices.Clone(list), api.Extent{At: 95, Run: 200 + 1i}), api.OK}, {95, 200 + 2i, nil, api.ErrArg}, {-1, 200 + 2i, nil, api.ErrArg}, {0, 58 + 1i, nil, api.ErrArg},
		{5, 81 + 2i, []api.Extent{{At: 0, Run: 60 + 2i}, {At: 3, Run: 62 + 1i}, {At: 4, Run: 80 + 3i}}, api.OK},
	} {
		if got, e := Put(list, c.place, c.r); !slices.Equal(got, c.want) || e != c.e {
			t.Errorf("Put %d: %v %d", i, got, e)
		}
	}
	for n, c := range []struct {
		list []api.Extent
		runs []complex128
	}{
		{nil, []complex128{60 + 2i, 62 + 1i, 80 + 1i}}, {[]api.Extent{{At: 0, Run: 60 + 1i}}, []complex128{61 + 1i, 62 + 1i, 80 + 1i}}, {list[:1], []complex128{62 + 1i, 80 + 1i}},
		{list[:1], []complex128{62 + 1i, 80 + 1i}}, {list[:2], []complex128{80 + 1i}}, {list, nil}, {list, nil},
	} {
		if got, runs, e := Cut(list, n); !slices.Equal(got, c.list) || !slices.Equal(runs, c.runs) || e != api.OK {
			t.Errorf("Cut at %d: %v %v %d", n, got, runs, e)
		}
	}
}

// P12.1: all pointers of few blocks, in places at both ends of a file.
func TestFewPointers(t *testing.T) {
	for _, blocks := range [][]int{{0, 59, 60, 61, 62}, {0, 476, 477, 478, 479}, {0, 58, 59, 60, 480}} {
		for choice := range 3125 {
			var some []int
			for range 5 {
				some = append(some, blocks[choice%5])
				choice /= 5
			}
			for _, ahead := range []int{0, 1, 90, 91, 92} {
				froms(t, append(make([]int, ahead), some...))
			}
			froms(t, slices.Concat(some, make([]int, 85), some[:1]))
			froms(t, slices.Concat(some, []int{100, 101, 102}, make([]int, 88)))
		}
	}
}

// P12.1: rising, falling, and of every length, one more than a file may have too.
func TestLengths(t *testing.T) {
	for size := range 100 {
		var up, down, gaps []int
		for k := range size {
			up, down, gaps = append(up, 59+k), append(down, 479-k), append(gaps, 60+k+k/7)
		}
		for _, pointers := range [][]int{up, down, gaps, make([]int, size), append(make([]int, size), 77), append(slices.Clone(up), 0, 0, 0)} {
			froms(t, pointers)
		}
	}
	froms(t, nil)
	froms(t, make([]int, 100000))
	froms(t, append([]int{5}, make([]int, 100000)...))
}

// P12.1: each number in each place, each pointer twice.
func TestNoPointers(t *testing.T) {
	for _, list := range someLists() {
		for k := range 96 {
			for _, n := range append(ints(), pointersOf(list)[90:]...) {
				pointers := pointersOf(list)
				pointers[k] = n
				froms(t, pointers)
			}
		}
	}
	for i := range 96 {
		for k := range 96 {
			pointers := make([]int, 96)
			pointers[i], pointers[k] = 100, 100
			froms(t, pointers)
		}
	}
}

// P12.1: what is sound, and what is not.
func TestSound(t *testing.T) {
	for _, list := range someLists() {
		if !Sound(list) {
			t.Errorf("%v is not sound", list)
		}
		judges(t, list)
		tos(t, list)
	}
	for _, list := range unsoundLists() {
		if Sound(list) {
			t.Errorf("%v is sound", list)
		}
		judges(t, list)
		tos(t, list)
	}
}

// P12.1: each run, wherever it is put, alone and among others.
func TestSoundRuns(t *testing.T) {
	for _, r := range runsRound() {
		for _, place := range ints() {
			x := api.Extent{At: place, Run: r}
			for _, list := range [][]api.Extent{{x}, {x, at(95, 300, 1)}, {at(0, 300, 1), x}, {at(0, 300, 2), x, at(94, 302, 2)}} {
				judges(t, list)
				tos(t, list)
			}
		}
	}
}

// P12.1: two and three extents near each other, in the file and on the device.
func TestSoundNear(t *testing.T) {
	var near []api.Extent
	for place := range 4 {
		for first := 59; first < 64; first++ {
			for count := range 3 {
				near = append(near, at(place, first, count+1))
			}
		}
	}
	for _, x := range near {
		for _, y := range near {
			judges(t, []api.Extent{x, y})
			tos(t, []api.Extent{x, y})
			for _, z := range near {
				z.At += 2
				judges(t, []api.Extent{x, y, z})
			}
		}
	}
}

// P12.1: extents at the ends of the file and of the device.
func TestSoundAtTheEnds(t *testing.T) {
	for place := -3; place < 100; place++ {
		for count := -1; count < 100; count++ {
			for _, first := range []int{57, 58, 59, 60, 383, 384, 385, 480 - count, 481 - count} {
				judges(t, []api.Extent{at(place, first, count)})
			}
		}
	}
}

// P12.1: as many extents as there may be, and one more, and very many.
func TestHowMany(t *testing.T) {
	var list []api.Extent
	for k := range 200 {
		list = append(list, at(k, 479-k, 1))
		judges(t, list)
		tos(t, list)
	}
	judges(t, slices.Repeat([]api.Extent{at(0, 60, 1)}, 100000))
	judges(t, slices.Repeat([]api.Extent{at(0, 60, 96)}, 96))
}

// P12.1, P9.1: what is sound in a node is so here.
func TestAsInNodes(t *testing.T) {
	lists := append(someLists(), unsoundLists()...)
	for _, r := range runsRound() {
		lists = append(lists, []api.Extent{{At: 3, Run: r}}, []api.Extent{at(0, 64, 2), {At: 2, Run: r}})
	}
	for _, list := range lists {
		if len(list) > 3 {
			continue
		}
		_, e := node.Encode(api.Node{Kind: 1, Format: 2, Links: 1, Extents: list})
		if Sound(list) != (e == api.OK) {
			t.Errorf("%v: %v, but a node of it %d", list, Sound(list), e)
		}
	}
}

// P12.1: each block of each list, and those that no file has.
func TestFind(t *testing.T) {
	for _, list := range append(someLists(), unsoundLists()...) {
		for block := -3; block < 100; block++ {
			finds(t, list, block)
		}
		for _, block := range ints() {
			finds(t, list, block)
		}
	}
}

// P12.2: every run of few blocks, put at every place.
func TestPutNear(t *testing.T) {
	for _, list := range append(someLists(), []api.Extent{at(0, 62, 1), at(1, 61, 1), at(2, 60, 1)}, []api.Extent{at(1, 60, 2), at(3, 59, 1)}) {
		for place := -1; place < 8; place++ {
			for first := 58; first < 67; first++ {
				for count := range 6 {
					puts(t, list, place, at(0, first, count).Run)
				}
			}
		}
		for place := 88; place < 98; place++ {
			for first := 381; first < 481; first += 3 {
				for count := range 5 {
					puts(t, list, place, at(0, first, count).Run)
				}
			}
		}
	}
}

// P12.2: numbers that are no runs, no places, and lists that are not sound: which error is told.
func TestPutWrong(t *testing.T) {
	for _, list := range append(someLists(), unsoundLists()...) {
		for _, place := range ints() {
			for _, r := range runsRound() {
				puts(t, list, place, r)
			}
		}
	}
}

// P12.2: blocks of a list put at each place, alone and with all of their run.
func TestPutThere(t *testing.T) {
	for _, list := range someLists() {
		for place := range 97 {
			for i := place % (1 + len(list)/8); i < len(list); i += 1 + len(list)/8 {
				x := list[i]
				puts(t, list, place, x.Run)
				puts(t, list, place, x.Run+1i)
				puts(t, list, place, x.Run-1)
				puts(t, list, place, complex(real(x.Run), 1))
				puts(t, list, place, complex(real(x.Run)+imag(x.Run)-1, 1))
				puts(t, list, place, complex(real(x.Run)+imag(x.Run), 1))
			}
		}
	}
}

// P12.2: at each number, and which error is told.
func TestCut(t *testing.T) {
	for _, list := range append(someLists(), unsoundLists()...) {
		for n := -3; n < 100; n++ {
			cuts(t, list, n)
		}
		for _, n := range ints() {
			cuts(t, list, n)
		}
	}
}

// P12.2: runs that go on behind one another on the device, but not in the file, are two.
func TestCutOverHoles(t *testing.T) {
	list := []api.Extent{at(3, 70, 4), at(8, 74, 4)}
	for n, want := range map[int][]complex128{0: {70 + 4i, 74 + 4i}, 5: {72 + 2i, 74 + 4i}, 7: {74 + 4i}, 8: {74 + 4i}, 11: {77 + 1i}, 12: nil, 96: nil} {
		if _, runs, e := Cut(list, n); !slices.Equal(runs, want) || e != api.OK {
			t.Errorf("Cut at %d: %v %d", n, runs, e)
		}
	}
	if _, runs, e := Cut([]api.Extent{at(0, 90, 2), at(2, 60, 3), at(5, 80, 1)}, 1); !slices.Equal(runs, []complex128{91 + 1i, 60 + 3i, 80 + 1i}) || e != api.OK {
		t.Errorf("Cut: %v %d", runs, e)
	}
}

// P12.1, P12.2: a file that grows and shrinks for long.
func TestInTurn(t *testing.T) {
	next := numbers(12)
	var list []api.Extent
	told := map[api.Errno]int{}
	most := 0
	for range 20000 {
		if next(12) == 0 {
			list, _, _ = cuts(t, list, next(97))
		}
		count := 1 + next(1+next(12))
		first, place := 59+next(422-count), next(97)
		if next(3) == 0 {
			first = 59 + (place*5+next(3))%400
		}
		more, e := puts(t, list, place, at(0, first, count).Run)
		told[e]++
		if e == api.OK {
			list = more
		}
		judges(t, list)
		tos(t, list)
		finds(t, list, next(98)-1)
		most = max(most, len(list))
	}
	if told[api.OK] < 5000 || told[api.ErrThere] < 1000 || told[api.ErrArg] < 500 || most < 30 {
		t.Errorf("of 20000: %v, at most %d extents", told, most)
	}
}

// P12.1: lists of any kind, sound or nearly so.
func TestListsInTurn(t *testing.T) {
	next := numbers(13)
	fine := 0
	for range 30000 {
		var list []api.Extent
		place, first := next(4), 59+next(300)
		for range 1 + next(9) {
			count := 1 + next(5)
			list = append(list, at(place, first, count))
			place += count + next(3) - next(40)/39
			first += count + next(3) - next(40)/39
			if next(10) == 0 {
				first = 58 + next(421)
			}
		}
		judges(t, list)
		tos(t, list)
		if Sound(list) {
			fine++
		}
	}
	if fine < 5000 || fine > 25000 {
		t.Errorf("%d lists of 30000 are sound", fine)
	}
}

// R4: what is answered is new memory, and what is handed in is left as it is, spare room too.
func TestMemory(t *testing.T) {
	for _, some := range someLists() {
		list := append(slices.Clone(some), at(7, 8, 9), at(-1, -2, -3))[:len(some)]
		pointers := append(pointersOf(some), -5, -6)[:96]
		answers := func() ([]int, []api.Extent, []api.Extent, []api.Extent, []complex128) {
			from, _ := From(pointers)
			to, _ := To(list)
			over, _ := Put(list, 0, at(0, 59, 96).Run)
			first, runs, _ := Cut(list, 50)
			return to, from, over, first, runs
		}
		to, from, over, first, runs := answers()
		scribble(from, over, first)
		for i := range runs[:cap(runs)] {
			runs[:cap(runs)][i] = -1
		}
		for i := range to[:cap(to)] {
			to[:cap(to)][i] = -1
		}
		if behind := list[:len(some)+2]; !slices.Equal(behind, append(slices.Clone(some), at(7, 8, 9), at(-1, -2, -3))) {
			t.Errorf("what was handed in is changed: %v", behind)
		}
		if behind := pointers[:98]; !slices.Equal(behind, append(pointersOf(some), -5, -6)) {
			t.Errorf("what was handed in is changed: %v", behind)
		}
		to, from, over, first, runs = answers()
		scribble(list)
		clear(pointers[:98])
		want, wanted, _ := cut(some, 50)
		if !slices.Equal(from, extentsOf(pointersOf(some))) || !slices.Equal(to, zeros(pointersOf(some))) || !slices.Equal(over, []api.Extent{at(0, 59, 96)}) || !slices.Equal(first, want) || !slices.Equal(runs, wanted) {
			t.Errorf("answers share memory: %v %v %v %v %v", from, to, over, first, runs)
		}
	}
}

func scribble(lists ...[]api.Extent) {
	for _, list := range lists {
		for i := range list[:cap(list)] {
			list[:cap(list)][i] = at(-7, -7, -7)
		}
	}
}
