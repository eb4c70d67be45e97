package spin

import (
	"bytes"
	"math"
	"math/big"
	"testing"
)

const prime = 65521

// sums are check sums, and numbers that no text has for its sum.
func sums() []uint32 {
	var list []uint32
	ends := []uint32{0, 1, 2, 5, 255, 256, 32760, 32768, 65519, 65520, 65521, 65522, 65530, 65535}
	for _, first := range ends {
		for _, second := range ends {
			list = append(list, first<<16|second)
		}
	}
	return list
}

// numbers answers the same numbers each time.
func numbers(seed uint32) func(below int) int {
	return func(below int) int {
		seed = seed*1664525 + 1013904223
		return int(seed>>8) % below
	}
}

// textsOfAll has texts of many lengths, with each byte somewhere.
func textsOfAll() [][]byte {
	list := [][]byte{nil, {}, {0}, {1}, {5}, {255}, {0, 0}, {255, 255, 255}, []byte("drydock"), bytes.Repeat([]byte{0}, 100), bytes.Repeat([]byte{255}, 100)}
	all := make([]byte, 256)
	for i := range all {
		all[i] = byte(i)
		list = append(list, []byte{byte(i)})
	}
	next := numbers(7)
	for n := range 40 {
		b := make([]byte, n)
		for i := range b {
			b[i] = byte(next(256))
		}
		list = append(list, b)
	}
	return append(list, all)
}

// whole is a complex number without any end, so that nothing is reduced on the way.
type whole struct{ re, im *big.Int }

func wholeOf(re, im int64) whole { return whole{big.NewInt(re), big.NewInt(im)} }

func (w whole) plus(v whole) whole {
	return whole{new(big.Int).Add(w.re, v.re), new(big.Int).Add(w.im, v.im)}
}

func (w whole) times(v whole) whole {
	product := func(a, b *big.Int) *big.Int { return new(big.Int).Mul(a, b) }
	return whole{
		new(big.Int).Sub(product(w.re, v.re), product(w.im, v.im)),
		new(big.Int).Add(product(w.re, v.im), product(w.im, v.re)),
	}
}

// sum reduces as late as can be; Mod of a big.Int is never below 0.
func (w whole) sum() uint32 {
	p := big.NewInt(prime)
	re, im := new(big.Int).Mod(w.re, p), new(big.Int).Mod(w.im, p)
	return uint32(re.Int64()*65536 + im.Int64())
}

// wholeMore is More, by the document's words.
func wholeMore(sum uint32, b []byte) uint32 {
	w := wholeOf(int64(sum/65536), int64(sum%65536))
	for _, x := range b {
		w = w.times(wholeOf(2, 1)).plus(wholeOf(int64(x), 0))
	}
	return w.sum()
}

// wholeJoin is Join, by the document's words; n is small.
func wholeJoin(a, b uint32, n int) uint32 {
	w := wholeOf(int64(a/65536)-1, int64(a%65536))
	for range max(n, 0) {
		w = w.times(wholeOf(2, 1))
	}
	return w.plus(wholeOf(int64(b/65536), int64(b%65536))).sum()
}

// P3.1: the document's example, and others reckoned by hand.
func TestSumExamples(t *testing.T) {
	for _, c := range []struct {
		b    []byte
		want uint32
	}{
		{nil, 65536},
		{[]byte{}, 65536},
		{[]byte{5}, 458753},
		{[]byte{0}, 2*65536 + 1},
		{[]byte{0, 0}, 3*65536 + 4},
		{[]byte{0, 0, 0}, 2*65536 + 11},
		// (2+i)^4 is -7 + 24i.
		{[]byte{0, 0, 0, 0}, (prime-7)*65536 + 24},
		{[]byte{255}, 257*65536 + 1},
		{[]byte{1, 2}, 7*65536 + 5},
	} {
		if got := Sum(c.b); got != c.want {
			t.Errorf("Sum(%v): %d, not %d", c.b, got, c.want)
		}
	}
}

// P3.1: the sum of many texts, held against numbers that have no end.
func TestSumOfTexts(t *testing.T) {
	for _, b := range textsOfAll() {
		if got, want := Sum(b), wholeMore(65536, b); got != want {
			t.Errorf("Sum(%v): %d, not %d", b, got, want)
		}
	}
}

// P3.1: long texts, held against a register of ints.
func TestSumOfLongTexts(t *testing.T) {
	next := numbers(11)
	b := make([]byte, 300000)
	re, im := 1, 0
	for i := range b {
		b[i] = byte(next(256))
		if i%1000 < 500 {
			b[i] = 255
		}
		re, im = ((2*re-im+int(b[i]))%prime+prime)%prime, (re+2*im)%prime
		if i%5000 == 0 && Sum(b[:i+1]) != uint32(re*65536+im) {
			t.Fatalf("Sum of %d bytes: %d, not %d", i+1, Sum(b[:i+1]), re*65536+im)
		}
	}
	if Sum(b) != uint32(re*65536+im) {
		t.Errorf("Sum of all: %d, not %d", Sum(b), re*65536+im)
	}
}

// P3.1: the parts of what is answered are from 0 to 65520.
func TestSumsPartsAreReduced(t *testing.T) {
	for _, sum := range sums() {
		for _, b := range textsOfAll() {
			got := More(sum, b)
			if got/65536 >= prime || got%65536 >= prime {
				t.Fatalf("More(%d, %v): %d", sum, b, got)
			}
		}
	}
}

// P3.1: More begins with the sum's parts, each modulo 65521.
func TestMore(t *testing.T) {
	for _, c := range []struct {
		sum  uint32
		b    []byte
		want uint32
	}{
		{65536, nil, 65536},
		{0, nil, 0},
		{math.MaxUint32, nil, 14*65536 + 14},
		{65521 << 16, nil, 0},
		{65521, nil, 0},
		{65520<<16 | 65520, nil, 65520<<16 | 65520},
		{65520<<16 | 65522, nil, 65520<<16 | 1},
		{0, []byte{9}, 9 << 16},
		// i is turned to -1 + 2i.
		{1, []byte{0}, 65520<<16 | 2},
		{1, []byte{1}, 2},
		{65522, []byte{1}, 2},
		{math.MaxUint32, []byte{1}, 15<<16 | 42},
	} {
		if got := More(c.sum, c.b); got != c.want {
			t.Errorf("More(%d, %v): %d, not %d", c.sum, c.b, got, c.want)
		}
	}
	for _, sum := range sums() {
		for _, b := range textsOfAll() {
			if got, want := More(sum, b), wholeMore(sum, b); got != want {
				t.Fatalf("More(%d, %v): %d, not %d", sum, b, got, want)
			}
		}
	}
}

// P3.1: a text may be cut anywhere.
func TestMoreGoesOn(t *testing.T) {
	for _, b := range textsOfAll() {
		for at := range len(b) + 1 {
			if got := More(Sum(b[:at]), b[at:]); got != Sum(b) {
				t.Fatalf("%v, cut at %d: %d, not %d", b, at, got, Sum(b))
			}
		}
	}
}

// P3.2: the sum of two texts is that of both, one behind the other.
func TestJoinOfTexts(t *testing.T) {
	texts := textsOfAll()
	for i, a := range texts {
		for _, b := range [][]byte{nil, {0}, {7}, texts[i], texts[(i*31+17)%len(texts)], texts[len(texts)-1]} {
			both := append(bytes.Clone(a), b...)
			if got := Join(Sum(a), Sum(b), len(b)); got != Sum(both) {
				t.Fatalf("%v and %v: %d, not %d", a, b, got, Sum(both))
			}
		}
	}
}

// P3.2: any numbers are joined as the registers that More begins with.
func TestJoinOfAnySums(t *testing.T) {
	all := sums()
	for i, a := range all {
		for j := i % 7; j < len(all); j += 7 {
			for _, n := range []int{0, 1, 2, 3, 17, 64} {
				if got, want := Join(a, all[j], n), wholeJoin(a, all[j], n); got != want {
					t.Fatalf("Join(%d, %d, %d): %d, not %d", a, all[j], n, got, want)
				}
			}
		}
	}
}

// P3.2: each power in turn, held against More of bytes that are 0.
func TestJoinsPowers(t *testing.T) {
	power := uint32(65536)
	for n := range 2100 {
		// (A - 1) M + B is M, of A = 2 and B = 0.
		if got := Join(2<<16, 0, n); got != power {
			t.Fatalf("2+i to the power of %d: %d, not %d", n, got, power)
		}
		power = More(power, []byte{0})
	}
}

// P3.2: n below 0 counts as 0.
func TestJoinBelowNone(t *testing.T) {
	for _, n := range []int{0, -1, -2, -65520, math.MinInt32, math.MinInt + 1, math.MinInt} {
		for _, c := range []struct{ a, b, want uint32 }{
			{65536, 65536, 65536},
			{458753, 65536, 458753},
			{458753, 458753, 13<<16 | 2},
			// 0 - 1 + 0 is 65520.
			{0, 0, 65520 << 16},
			{0, 65520<<16 | 65520, 65519<<16 | 65520},
			{math.MaxUint32, math.MaxUint32, 27<<16 | 28},
			{1<<16 | 65520, 1, 0},
		} {
			if got := Join(c.a, c.b, n); got != c.want {
				t.Errorf("Join(%d, %d, %d): %d, not %d", c.a, c.b, n, got, c.want)
			}
		}
	}
}

// P3.2: n may be as great as can be. 65521 is a prime that -1 is a square of, so (2 + i) to the power of 65520 is 1.
func TestJoinOfGreatTexts(t *testing.T) {
	for _, n := range []int{65519, 65520, 65521, 1 << 20, math.MaxInt32, math.MaxInt32 + 1, math.MaxInt/65520*65520 - 1, math.MaxInt / 65520 * 65520, 1 << 62, math.MaxInt - 1, math.MaxInt} {
		for _, a := range []uint32{0, 65536, 458753, 65520<<16 | 65520, math.MaxUint32} {
			for _, b := range []uint32{0, 65536, 458753, math.MaxUint32} {
				if got, want := Join(a, b, n), Join(a, b, n%65520); got != want {
					t.Errorf("Join(%d, %d, %d): %d, not %d", a, b, n, got, want)
				}
			}
		}
	}
	zeros := make([]byte, 65520)
	if got := Sum(zeros); got != 65536 {
		t.Errorf("Sum of 65520 zeros: %d", got)
	}
}

// P3.1, R4: what is handed in is left as it is, spare room included.
func TestBytesAreLeft(t *testing.T) {
	room := []byte{1, 2, 3, 4, 5, 6, 7, 8}
	kept := bytes.Clone(room)
	Sum(room[:4])
	More(math.MaxUint32, room[:4])
	if !bytes.Equal(room, kept) {
		t.Errorf("%v became %v", kept, room)
	}
}
