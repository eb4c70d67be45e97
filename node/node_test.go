package node

import (
	"bytes"
	"math"
	"slices"
	"testing"

	"drydock/api"
	"drydock/spin"
)

// sealed is half a block of these bytes, 0 behind them, and the check sum.
func sealed(first ...byte) []byte {
	b := make([]byte, 32)
	copy(b[:28], first)
	sum := spin.Sum(b[:28])
	b[28], b[29], b[30], b[31] = byte(sum), byte(sum>>8), byte(sum>>16), byte(sum>>24)
	return b
}

func extent(at, first, count int) api.Extent {
	return api.Extent{At: at, Run: complex(float64(first), float64(count))}
}

func someOld() api.Node {
	return api.Node{Kind: 1, Format: 1, Links: 1000, Size: 6144, Direct: [4]int{59, 0, 479, 60}, Single: 61, Double: 291}
}

func someNew() api.Node {
	return api.Node{Kind: 2, Format: 2, Links: 1, Size: 192, Extents: []api.Extent{extent(0, 59, 2), extent(5, 300, 1), extent(95, 479, 1)}, Chain: 100}
}

// oldOf and newOf are nodes whose map is all that matters.
func oldOf(direct [4]int, single, double int) api.Node {
	return api.Node{Kind: 1, Format: 1, Links: 1, Direct: direct, Single: single, Double: double}
}

func newOf(list ...api.Extent) api.Node {
	return api.Node{Kind: 1, Format: 2, Links: 1, Extents: list}
}

func someNodes() []api.Node {
	return []api.Node{
		{}, someOld(), someNew(), oldOf([4]int{}, 0, 0), newOf(), newOf(extent(0, 60, 1)), newOf(extent(3, 60, 4), extent(7, 65, 1)),
		{Kind: 2, Format: 1, Links: 1, Size: 64, Direct: [4]int{100}}, {Kind: 2, Format: 2, Links: 7, Size: 1, Chain: 59},
	}
}

func put2(b []byte, at, n int) {
	b[at], b[at+1] = byte(n), byte(n>>8)
}

// bytesOf lays a node byte by byte, by the document's words; what does not fit its bytes is cut off.
func bytesOf(n api.Node) []byte {
	b := make([]byte, 28)
	b[0], b[1] = byte(n.Kind), byte(n.Format)
	put2(b, 2, n.Links)
	put2(b, 4, n.Size)
	if n.Format == 2 {
		for i, x := range n.Extents {
			b[6+4*i] = byte(x.At)
			put2(b, 7+4*i, int(real(x.Run)))
			b[9+4*i] = byte(int(imag(x.Run)))
		}
		put2(b, 18, n.Chain)
		return sealed(b...)
	}
	for i, p := range n.Direct {
		put2(b, 6+2*i, p)
	}
	put2(b, 14, n.Single)
	put2(b, 16, n.Double)
	return sealed(b...)
}

func get2(b []byte, at int) int {
	return int(b[at]) | int(b[at+1])<<8
}

// nodeOf reads half a block by the document's words; false, if it is that of no sound node.
func nodeOf(b []byte) (api.Node, bool) {
	if len(b) != 32 || !bytes.Equal(b, sealed(b[:28]...)) {
		return api.Node{}, false
	}
	if b[0] == 0 {
		return api.Node{}, bytes.Equal(b[:28], make([]byte, 28))
	}
	n := api.Node{Kind: int(b[0]), Format: int(b[1]), Links: get2(b, 2), Size: get2(b, 4)}
	zeros := b[18:28]
	if n.Format == 1 {
		n.Direct = [4]int{get2(b, 6), get2(b, 8), get2(b, 10), get2(b, 12)}
		n.Single, n.Double = get2(b, 14), get2(b, 16)
	} else {
		zeros = b[20:28]
		for i := range 3 {
			at := 6 + 4*i
			if bytes.Equal(b[at:at+4], make([]byte, 4)) {
				if !bytes.Equal(b[at:18], make([]byte, 18-at)) {
					return api.Node{}, false
				}
				break
			}
			n.Extents = append(n.Extents, extent(int(b[at]), get2(b, at+1), int(b[at+3])))
		}
		n.Chain = get2(b, 18)
	}
	if !isSound(n) || !bytes.Equal(zeros, make([]byte, len(zeros))) {
		return api.Node{}, false
	}
	return n, true
}

func isData(n int) bool { return n == 0 || n >= 59 && n <= 479 }

// isSound says it by the document's words, of nodes whose runs are whole numbers.
func isSound(n api.Node) bool {
	old := n.Direct == [4]int{} && n.Single == 0 && n.Double == 0
	if n.Kind == 0 {
		return n.Format == 0 && n.Links == 0 && n.Size == 0 && old && len(n.Extents) == 0 && n.Chain == 0
	}
	if n.Kind != 1 && n.Kind != 2 || n.Links < 1 || n.Links > 1000 || n.Size < 0 || n.Size > 6144 {
		return false
	}
	if n.Format == 1 {
		return isData(n.Direct[0]) && isData(n.Direct[1]) && isData(n.Direct[2]) && isData(n.Direct[3]) &&
			isData(n.Single) && isData(n.Double) && len(n.Extents) == 0 && n.Chain == 0
	}
	return n.Format == 2 && old && isData(n.Chain) && areExtents(n.Extents)
}

// areExtents goes block by block: who lies where, in the file and on the device.
func areExtents(list []api.Extent) bool {
	if len(list) > 3 {
		return false
	}
	inFile, taken := map[int]int{}, map[int]bool{}
	for i, x := range list {
		first, count := int(real(x.Run)), int(imag(x.Run))
		if x.At < 0 || count < 1 || i > 0 && x.At < list[i-1].At {
			return false
		}
		for k := range count {
			if _, there := inFile[x.At+k]; there || x.At+k > 95 || first+k < 59 || first+k > 479 || taken[first+k] {
				return false
			}
			inFile[x.At+k], taken[first+k] = first+k, true
		}
		if before, there := inFile[x.At-1]; there && before+1 == first {
			return false
		}
	}
	return true
}

// ints are numbers round all ends of what is sound, those that look sound when they are cut to fewer bytes, and the ends of what an int is.
func ints() []int {
	return []int{
		math.MinInt, math.MinInt + 1, math.MinInt32, -1 << 16, -256, -255, -59, -1, 0, 1, 2, 3, 4, 57, 58, 59, 60, 61, 95, 96, 97,
		254, 255, 256, 257, 258, 420, 421, 422, 478, 479, 480, 481, 511, 512, 999, 1000, 1001, 1024, 6143, 6144, 6145,
		65535, 65536, 65537, 65536 + 59, 65536 + 479, 1<<24 + 60, 1 << 30, math.MaxInt32, 1 << 31, math.MaxUint32,
		1 << 32, 1<<32 + 1, 1<<32 + 60, 1 << 53, 1 << 62, math.MaxInt - 1, math.MaxInt,
	}
}

func encodes(t *testing.T, n api.Node, want []byte) {
	t.Helper()
	if b, e := Encode(n); e != api.OK || !bytes.Equal(b, want) {
		t.Fatalf("Encode(%v): %v %d, not %v", n, b, e, want)
	}
	if got, e := Decode(want); e != api.OK || !same(got, n) {
		t.Fatalf("Decode(%v): %v %d, not %v", want, got, e, n)
	}
}

// same holds field against field, as Same is to do.
func same(a, b api.Node) bool {
	if len(a.Extents) != len(b.Extents) {
		return false
	}
	for i, x := range a.Extents {
		if x.At != b.Extents[i].At || x.Run != b.Extents[i].Run {
			return false
		}
	}
	return a.Kind == b.Kind && a.Format == b.Format && a.Links == b.Links && a.Size == b.Size &&
		a.Direct == b.Direct && a.Single == b.Single && a.Double == b.Double && a.Chain == b.Chain
}

// encodesNot sees that the error stands alone, as decodesNot does.
func encodesNot(t *testing.T, n api.Node) {
	t.Helper()
	if b, e := Encode(n); e != api.ErrForm || b != nil {
		t.Fatalf("Encode(%v): %v %d", n, b, e)
	}
}

func decodesNot(t *testing.T, b []byte) {
	t.Helper()
	if n, e := Decode(b); e != api.ErrForm || !same(n, api.Node{}) {
		t.Fatalf("Decode(%v): %v %d", b, n, e)
	}
}

// judges holds Encode, and Decode of the bytes that the node would have, against the words.
func judges(t *testing.T, n api.Node) {
	t.Helper()
	if isSound(n) {
		encodes(t, n, bytesOf(n))
	} else {
		encodesNot(t, n)
	}
}

// judgesBytes holds Decode against the words.
func judgesBytes(t *testing.T, b []byte) {
	t.Helper()
	if n, ok := nodeOf(b); ok {
		encodes(t, n, b)
	} else {
		decodesNot(t, b)
	}
}

// numbers answers the same numbers each time.
func numbers(seed uint32) func(below int) int {
	return func(below int) int {
		seed = seed*1664525 + 1013904223
		return int(seed>>8) % below
	}
}

// P9.1: bytes written out, check sums too.
func TestBytes(t *testing.T) {
	b := make([]byte, 32)
	copy(b[28:], []byte{161, 145, 248, 178})
	encodes(t, api.Node{}, b)
	b = make([]byte, 32)
	copy(b, []byte{1, 1, 0xe8, 3, 0, 24, 59, 0, 0, 0, 223, 1, 60, 0, 61, 0, 35, 1})
	copy(b[28:], []byte{238, 229, 182, 141})
	encodes(t, someOld(), b)
	b = make([]byte, 32)
	copy(b, []byte{2, 2, 1, 0, 192, 0, 0, 59, 0, 2, 5, 44, 1, 1, 95, 223, 1, 1, 100, 0})
	copy(b[28:], []byte{208, 237, 237, 149})
	encodes(t, someNew(), b)
}

// numbersOf are all numbers of a node but those of its extents.
func numbersOf(n *api.Node) []*int {
	return []*int{&n.Kind, &n.Format, &n.Links, &n.Size, &n.Direct[0], &n.Direct[1], &n.Direct[2], &n.Direct[3], &n.Single, &n.Double, &n.Chain}
}

// P9.1: each number goes by itself, at its ends and beyond them, whatever the others are.
func TestEachNumber(t *testing.T) {
	for _, n := range someNodes() {
		for i := range numbersOf(&n) {
			for _, x := range ints() {
				m := n
				*numbersOf(&m)[i] = x
				judges(t, m)
			}
		}
	}
}

// P9.1: two numbers at once, such as a Kind and a Format that go, or don't go, together.
func TestKindsAndFormats(t *testing.T) {
	for _, n := range someNodes() {
		for kind := -1; kind <= 4; kind++ {
			for format := -1; format <= 4; format++ {
				m := n
				m.Kind, m.Format = kind, format
				judges(t, m)
			}
		}
	}
}

// P9.1: all sound Links, Sizes and pointers, and others that fit two bytes, written and sealed.
func TestNumbersOfTwoBytes(t *testing.T) {
	for _, n := range []api.Node{someOld(), someNew()} {
		for at := 2; at < 28; at += 2 {
			for x := range 1 << 16 {
				if x > 7000 && x%251 != 0 {
					continue
				}
				b := bytesOf(n)
				put2(b, at, x)
				judgesBytes(t, sealed(b[:28]...))
			}
		}
	}
}

// P9.1: each byte is looked at, though the check sum is right.
func TestOtherBytes(t *testing.T) {
	for _, n := range someNodes() {
		for at := range 28 {
			for x := range 256 {
				b := bytesOf(n)
				b[at] = byte(x)
				judgesBytes(t, sealed(b[:28]...))
			}
		}
	}
}

// P9.1: bytes of a node of one Kind or Format said to be another's.
func TestOtherHeads(t *testing.T) {
	for _, n := range someNodes() {
		for kind := range 256 {
			for format := range 256 {
				b := bytesOf(n)
				b[0], b[1] = byte(kind), byte(format)
				judgesBytes(t, sealed(b[:28]...))
			}
		}
	}
}

// P9.1: no bit may be turned, those of the check sum neither.
func TestTurnedBits(t *testing.T) {
	for _, n := range someNodes() {
		for at := range 32 {
			for bit := range 8 {
				b := bytesOf(n)
				b[at] ^= 1 << bit
				decodesNot(t, b)
			}
		}
	}
}

// P9.1, R1: what is no half at all.
func TestNoHalves(t *testing.T) {
	list := [][]byte{nil, {}, {0}, make([]byte, 32), make([]byte, 64), bytes.Repeat([]byte{255}, 32), sealed(bytes.Repeat([]byte{255}, 28)...)}
	for _, n := range someNodes() {
		b := bytesOf(n)
		list = append(list, b[:1], b[:28], b[:31], b[:31:31], append(bytes.Clone(b), 0), append(bytes.Clone(b), b...), append([]byte{0}, b...), append(bytes.Clone(b), make([]byte, 100)...))
	}
	for _, b := range list {
		decodesNot(t, b)
	}
}

// P9.1: extents at the ends of what is sound, and beyond them.
func TestExtents(t *testing.T) {
	for i, c := range []struct {
		list  []api.Extent
		sound bool
	}{
		{nil, true},
		{[]api.Extent{}, true},
		{[]api.Extent{extent(0, 59, 96)}, true},
		{[]api.Extent{extent(0, 59, 97)}, false},
		{[]api.Extent{extent(1, 59, 96)}, false},
		{[]api.Extent{extent(0, 384, 96)}, true},
		{[]api.Extent{extent(0, 385, 96)}, false},
		{[]api.Extent{extent(95, 479, 1)}, true},
		{[]api.Extent{extent(96, 479, 1)}, false},
		{[]api.Extent{extent(95, 478, 2)}, false},
		{[]api.Extent{extent(0, 480, 1)}, false},
		{[]api.Extent{extent(0, 58, 1)}, false},
		{[]api.Extent{extent(0, 58, 2)}, false},
		{[]api.Extent{extent(0, 0, 1)}, false},
		{[]api.Extent{extent(0, 0, 480)}, false},
		{[]api.Extent{extent(0, 59, 421)}, false},
		{[]api.Extent{extent(0, 60, 0)}, false},
		{[]api.Extent{extent(5, 0, 0)}, false},
		{[]api.Extent{extent(0, 0, 0)}, false},
		{[]api.Extent{{}, {}, {}}, false},
		{[]api.Extent{extent(-1, 60, 1)}, false},
		{[]api.Extent{extent(-1, 60, 2)}, false},
		{[]api.Extent{extent(0, 60, 2), extent(2, 62, 1)}, false},
		{[]api.Extent{extent(0, 60, 2), extent(3, 62, 1)}, true},
		{[]api.Extent{extent(0, 60, 2), extent(2, 63, 1)}, true},
		{[]api.Extent{extent(0, 60, 2), extent(2, 59, 1)}, true},
		{[]api.Extent{extent(0, 60, 2), extent(1, 70, 1)}, false},
		{[]api.Extent{extent(0, 60, 2), extent(0, 70, 1)}, false},
		{[]api.Extent{extent(5, 60, 2), extent(0, 70, 1)}, false},
		{[]api.Extent{extent(5, 60, 2), extent(9, 61, 1)}, false},
		{[]api.Extent{extent(5, 60, 2), extent(9, 60, 1)}, false},
		{[]api.Extent{extent(5, 60, 2), extent(9, 59, 2)}, false},
		{[]api.Extent{extent(5, 60, 2), extent(9, 59, 9)}, false},
		{[]api.Extent{extent(0, 60, 1), extent(1, 62, 1), extent(2, 64, 1)}, true},
		{[]api.Extent{extent(0, 60, 1), extent(1, 62, 1), extent(2, 61, 1)}, true},
		{[]api.Extent{extent(0, 60, 1), extent(1, 62, 1), extent(2, 63, 1)}, false},
		{[]api.Extent{extent(0, 60, 1), extent(1, 62, 1), extent(2, 60, 1)}, false},
		{[]api.Extent{extent(0, 60, 1), extent(4, 62, 1), extent(2, 64, 1)}, false},
		{[]api.Extent{extent(0, 60, 1), {}, extent(2, 64, 1)}, false},
		{[]api.Extent{{}, extent(2, 64, 1)}, false},
		{[]api.Extent{extent(0, 60, 1), extent(2, 62, 1), extent(4, 64, 1), extent(6, 66, 1)}, false},
		{[]api.Extent{extent(0, 60, 1), extent(2, 62, 1), extent(4, 64, 1), {}}, false},
	} {
		n := newOf(c.list...)
		if isSound(n) != c.sound {
			t.Fatalf("%d: the test's own words say otherwise", i)
		}
		judges(t, n)
	}
}

// P9.1: all pairs of short extents near each other, in the file and on the device.
func TestExtentsNear(t *testing.T) {
	for at := range 4 {
		for first := 58; first < 66; first++ {
			for count := range 4 {
				x := extent(at, first, count)
				judges(t, newOf(x))
				judges(t, newOf(extent(1, 61, 2), x))
				judges(t, newOf(x, extent(2, 61, 2)))
				judges(t, newOf(extent(0, 61, 1), extent(1, 63, 1), x))
				judges(t, newOf(extent(0, 61, 1), x, extent(5, 63, 1)))
			}
		}
	}
}

// P9.1: extents whose At is at the ends of an int, or whose bytes say as much as those of sound ones.
func TestExtentsAtTheEnds(t *testing.T) {
	for _, x := range ints() {
		judges(t, newOf(api.Extent{At: x, Run: 60 + 1i}))
		judges(t, newOf(extent(0, 70, 1), api.Extent{At: x, Run: 60 + 2i}))
		if x > math.MinInt32 && x < 1<<33 {
			judges(t, newOf(extent(0, x, 1)))
		}
		if x <= 1<<16 {
			judges(t, newOf(extent(0, 60, x)))
		}
	}
}

// P9.1, R1: runs of any parts.
func TestExtentsOfNoRuns(t *testing.T) {
	nan, inf, negative := math.NaN(), math.Inf(1), math.Copysign(0, -1)
	for _, r := range []complex128{
		complex(nan, 1), complex(60, nan), complex(nan, nan), complex(inf, 1), complex(60, inf), complex(-inf, 1), complex(60, -inf), complex(inf, -inf),
		60.5 + 1i, 60 + 1.5i, 60 + 0.5i, complex(math.Nextafter(60, 61), 1), complex(60, math.Nextafter(1, 2)), complex(60, math.SmallestNonzeroFloat64),
		complex(negative, 1), complex(60, negative), complex(negative, negative), complex(-60, 1), complex(60, -1), complex(-60, -1),
		complex(math.MaxFloat64, 1), complex(60, math.MaxFloat64), complex(-math.MaxFloat64, math.MaxFloat64), complex(65536+60, 1), complex(60, 257),
	} {
		for _, list := range [][]api.Extent{{{Run: r}}, {{At: 1, Run: r}, extent(5, 70, 1)}, {extent(0, 70, 1), {At: 1, Run: r}}, {extent(0, 70, 1), extent(3, 80, 1), {At: 8, Run: r}}} {
			encodesNot(t, newOf(list...))
			encodesNot(t, api.Node{Extents: list})
			m := someOld()
			m.Extents = list
			encodesNot(t, m)
		}
	}
}

// P9.1: many extents need not be gone through where there are too many.
func TestTooManyExtents(t *testing.T) {
	var list []api.Extent
	for i := range 48 {
		list = append(list, extent(2*i, 60+2*i, 1))
	}
	for count := range 49 {
		judges(t, newOf(list[:count]...))
	}
}

// P9.1: whatever lies in the slots, and in whichever of them.
func TestSlots(t *testing.T) {
	next := numbers(9)
	for range 60000 {
		b := bytesOf(api.Node{Kind: 1, Format: 2, Links: 1})
		for i := range 3 {
			if next(3) > 0 {
				b[6+4*i] = byte(next(6) + 4*i)
				put2(b, 7+4*i, 57+next(9))
				b[9+4*i] = byte(next(4))
			}
		}
		if next(4) == 0 {
			b[6+next(14)] = byte(next(256))
		}
		judgesBytes(t, sealed(b[:28]...))
	}
}

// P9.1: each slot by itself, all but it empty, or all full.
func TestEmptySlots(t *testing.T) {
	for mask := range 8 {
		b := bytesOf(api.Node{Kind: 2, Format: 2, Links: 3, Size: 100, Chain: 479})
		for i := range 3 {
			if mask>>i&1 == 1 {
				copy(b[6+4*i:], []byte{byte(4 * i), byte(60 + 10*i), 0, 3})
			}
		}
		b = sealed(b[:28]...)
		if mask == 0 || mask == 1 || mask == 3 || mask == 7 {
			n, e := Decode(b)
			if e != api.OK || len(n.Extents) != []int{0, 1, 0, 2, 0, 0, 0, 3}[mask] {
				t.Errorf("%d: %v %d", mask, n, e)
			}
		} else {
			decodesNot(t, b)
		}
		judgesBytes(t, b)
	}
}

// P9.1: pointers need not be unlike here: chapter 11 tells of that.
func TestEqualPointers(t *testing.T) {
	judges(t, oldOf([4]int{60, 60, 60, 60}, 60, 60))
	n := newOf(extent(0, 60, 3))
	n.Chain = 61
	judges(t, n)
}

// P9.1
func TestSame(t *testing.T) {
	all := append(someNodes(), api.Node{Kind: -1, Format: 9, Links: math.MinInt, Size: math.MaxInt, Extents: []api.Extent{{At: -1, Run: complex(math.Inf(1), 0.5)}}})
	for i, a := range all {
		for k, b := range all {
			if Same(a, b) != (i == k) {
				t.Errorf("Same(%v, %v): %v", a, b, i != k)
			}
		}
	}
}

// P9.1: each field is held against the other's.
func TestSameFields(t *testing.T) {
	for _, n := range someNodes() {
		for i := range numbersOf(&n) {
			for _, by := range []int{1, -1, 256, 1 << 16, 1 << 32, math.MinInt} {
				m := n
				*numbersOf(&m)[i] += by
				if Same(n, m) || Same(m, n) || !Same(m, m) {
					t.Errorf("Same(%v, %v)", n, m)
				}
			}
		}
	}
}

// P9.1: extents are held against each other one by one, in order, and by how many there are.
func TestSameExtents(t *testing.T) {
	one, two, three := extent(0, 60, 1), extent(2, 62, 1), extent(4, 64, 1)
	lists := [][]api.Extent{
		nil, {one}, {two}, {one, two}, {two, one}, {one, one}, {one, two, three}, {one, three, two}, {one, two, three, three}, {one, two, {}}, {{}}, {{}, {}},
		{extent(1, 60, 1)}, {extent(0, 61, 1)}, {extent(0, 60, 2)}, {extent(0, 1, 60)}, {{Run: complex(60, math.Nextafter(1, 2))}},
	}
	for i, a := range lists {
		for k, b := range lists {
			if Same(newOf(a...), newOf(slices.Clone(b)...)) != (i == k) {
				t.Errorf("Same of %v and %v: %v", a, b, i != k)
			}
		}
	}
	for _, empty := range [][]api.Extent{nil, {}, make([]api.Extent, 0, 3), lists[6][:0]} {
		if !Same(newOf(empty...), newOf()) || !Same(newOf(), newOf(empty...)) || !Same(api.Node{Extents: empty}, api.Node{}) {
			t.Errorf("%v is not the same as nil", empty)
		}
		encodes(t, api.Node{Extents: empty}, bytesOf(api.Node{}))
		n := someOld()
		n.Extents = empty
		encodes(t, n, bytesOf(n))
	}
}

// P9.1, R4: what is handed in is left as it is, and what is answered is new memory, spare room included.
func TestMemory(t *testing.T) {
	for _, n := range someNodes() {
		room := append(bytesOf(n), 1, 2, 3)
		kept := bytes.Clone(room)
		list := append(slices.Clone(n.Extents), extent(-1, -2, -3), extent(4, 5, 6))
		keptList := slices.Clone(list)
		n.Extents = list[:len(n.Extents)]
		first, _ := Encode(n)
		second, _ := Encode(n)
		clear(first[:cap(first)])
		a, _ := Decode(room[:32])
		b, _ := Decode(room[:32])
		clear(a.Extents[:cap(a.Extents)])
		third, _ := Encode(n)
		if !bytes.Equal(room, kept) || !slices.Equal(list, keptList) {
			t.Errorf("%v: what was handed in is changed: %v, %v", n, room, list)
		}
		if !bytes.Equal(second, kept[:32]) || !bytes.Equal(third, kept[:32]) || !same(b, n) {
			t.Errorf("%v: answers share memory", n)
		}
	}
}
