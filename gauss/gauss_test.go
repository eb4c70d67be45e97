package gauss

import (
	"math"
	"math/big"
	"testing"

	"drydock/api"
)

const top = 1 << 20

// notWhole are numbers that every call with errors refuses.
func notWhole() []complex128 {
	nan, inf := math.NaN(), math.Inf(1)
	return []complex128{
		complex(nan, 0), complex(0, nan), complex(nan, nan), complex(nan, inf),
		complex(inf, 0), complex(0, inf), complex(-inf, 0), complex(0, -inf), complex(inf, -inf),
		0.5, 0.5i, -0.5, complex(0, -0.25), complex(math.SmallestNonzeroFloat64, 0),
		top + 1, -top - 1, complex(0, top+1), complex(0, -top-1),
		complex(math.Nextafter(top, inf), 0), complex(0, math.Nextafter(top, 0)),
		complex(math.MaxFloat64, 0), complex(0, -math.MaxFloat64), 1e300 + 1e300i,
	}
}

func negativeZero() float64 { return math.Copysign(0, -1) }

// edges are whole numbers at their ends, and small ones, zeros of either sign among them.
func edges() []complex128 {
	parts := []float64{0, negativeZero(), 1, -1, 2, -3, 7, 1023, -1024, top - 1, top, 1 - top, -top}
	var list []complex128
	for _, x := range parts {
		for _, y := range parts {
			list = append(list, complex(x, y))
		}
	}
	return list
}

func checkSignless(t *testing.T, what string, list ...complex128) {
	t.Helper()
	for _, z := range list {
		for _, x := range []float64{real(z), imag(z)} {
			if x == 0 && math.Signbit(x) {
				t.Fatalf("%s: %v has a zero with a sign", what, z)
			}
		}
	}
}

func ints(z complex128) (x, y int) { return int(real(z)), int(imag(z)) }

func product(a, b complex128) (x, y int) {
	p, q := ints(a)
	r, s := ints(b)
	return p*r - q*s, p*s + q*r
}

// P1.1
func TestWhole(t *testing.T) {
	for _, z := range edges() {
		if !Whole(z) {
			t.Errorf("%v is not whole", z)
		}
	}
	for _, z := range notWhole() {
		if Whole(z) {
			t.Errorf("%v is whole", z)
		}
	}
}

// P1.2
func TestNorm(t *testing.T) {
	for _, c := range []struct {
		z complex128
		n int
	}{{0, 0}, {3 - 4i, 25}, {-1i, 1}, {complex(negativeZero(), -2), 4}, {complex(top, -top), 2 * top * top}, {complex(-top, 1), top*top + 1}} {
		if n, e := Norm(c.z); n != c.n || e != api.OK {
			t.Errorf("Norm(%v): %d, %d", c.z, n, e)
		}
	}
	for _, z := range notWhole() {
		if n, e := Norm(z); n != 0 || e != api.ErrArg {
			t.Errorf("Norm(%v): %d, %d", z, n, e)
		}
	}
}

// P1.2
func TestTimes(t *testing.T) {
	for _, a := range edges() {
		for _, b := range edges() {
			x, y := product(a, b)
			want, wantE := complex(float64(x), float64(y)), api.OK
			if x < -top || x > top || y < -top || y > top {
				want, wantE = 0, api.ErrRange
			}
			z, e := Times(a, b)
			if z != want || e != wantE {
				t.Fatalf("Times(%v, %v): %v, %d", a, b, z, e)
			}
			checkSignless(t, "Times", z)
		}
	}
}

func TestTimesAtTheEnds(t *testing.T) {
	for _, c := range []struct {
		a, b, z complex128
		e       api.Errno
	}{
		{1 + 2i, 3 - 1i, 5 + 5i, api.OK},
		{1024, 1024i, complex(0, top), api.OK},
		{-1024, 1024, -top, api.OK},
		{1024, 1025, 0, api.ErrRange},
		{complex(top, top), 1 - 1i, 0, api.ErrRange},
		{complex(0, top), 2i, 0, api.ErrRange},
		{complex(top, top), 1i, complex(-top, top), api.OK},
	} {
		if z, e := Times(c.a, c.b); z != c.z || e != c.e {
			t.Errorf("Times(%v, %v): %v, %d", c.a, c.b, z, e)
		}
	}
}

// P1.2 to P1.4, R2, R3: ErrArg comes ahead of all other errors, and nothing beside it.
func TestNotWholeIsRefused(t *testing.T) {
	for _, z := range notWhole() {
		for _, other := range append(notWhole(), 0, 1, complex(top, top)) {
			for _, pair := range [][2]complex128{{z, other}, {other, z}} {
				if p, e := Times(pair[0], pair[1]); p != 0 || e != api.ErrArg {
					t.Errorf("Times(%v): %v, %d", pair, p, e)
				}
				if q, r, e := Divide(pair[0], pair[1]); q != 0 || r != 0 || e != api.ErrArg {
					t.Errorf("Divide(%v): %v, %v, %d", pair, q, r, e)
				}
				if g, e := Common(pair[0], pair[1]); g != 0 || e != api.ErrArg {
					t.Errorf("Common(%v): %v, %d", pair, g, e)
				}
			}
		}
	}
}

// floorOfHalfMore is the greatest whole number not above x / n and one half, by fractions without bound.
func floorOfHalfMore(x, n int) int {
	sum := new(big.Rat).Add(big.NewRat(int64(x), int64(n)), big.NewRat(1, 2))
	// Div rounds so that the rest is not below 0: down, for a divisor above 0.
	return int(new(big.Int).Div(sum.Num(), sum.Denom()).Int64())
}

func checkDivide(t *testing.T, a, b complex128) {
	t.Helper()
	q, r, e := Divide(a, b)
	if b == 0 {
		if q != 0 || r != 0 || e != api.ErrNone {
			t.Fatalf("Divide(%v, 0): %v, %v, %d", a, q, r, e)
		}
		return
	}
	x, y := product(a, complex(real(b), -imag(b)))
	bx, by := ints(b)
	n := bx*bx + by*by
	wantQ := complex(float64(floorOfHalfMore(x, n)), float64(floorOfHalfMore(y, n)))
	px, py := product(wantQ, b)
	ax, ay := ints(a)
	wantR := complex(float64(ax-px), float64(ay-py))
	if q != wantQ || r != wantR || e != api.OK {
		t.Fatalf("Divide(%v, %v): %v, %v, %d, not %v, %v", a, b, q, r, e, wantQ, wantR)
	}
	rx, ry := ints(r)
	if 2*(rx*rx+ry*ry) > n {
		t.Fatalf("Divide(%v, %v): the rest %v is too great", a, b, r)
	}
	checkSignless(t, "Divide", q, r)
}

// P1.3
func TestDivide(t *testing.T) {
	for _, c := range [][4]complex128{
		{5 + 5i, 3 - 1i, 1 + 2i, 0},
		{1, 2, 1, -1},
		{-1, 2, 0, -1},
		{-3, 2, -1, -1},
		{1 + 1i, 2, 1 + 1i, -1 - 1i},
		{7, 2i, -3i, 1},
		{0, 4i, 0, 0},
		{complex(top, -top), 1i, complex(-top, -top), 0},
	} {
		if q, r, e := Divide(c[0], c[1]); q != c[2] || r != c[3] || e != api.OK {
			t.Errorf("Divide(%v, %v): %v, %v, %d", c[0], c[1], q, r, e)
		}
	}
	for _, a := range edges() {
		for _, b := range edges() {
			checkDivide(t, a, b)
		}
	}
}

func TestDivideAllSmall(t *testing.T) {
	for _, a := range square(9) {
		for _, b := range square(6) {
			checkDivide(t, a, b)
		}
	}
}

// square lists all whole numbers with parts from -n to n.
func square(n int) []complex128 {
	var list []complex128
	for x := -n; x <= n; x++ {
		for y := -n; y <= n; y++ {
			list = append(list, complex(float64(x), float64(y)))
		}
	}
	return list
}

// goesInto asks by remainders alone, so that it leans on none of the package's calls.
func goesInto(g, z complex128) bool {
	x, y := product(z, complex(real(g), -imag(g)))
	gx, gy := ints(g)
	n := gx*gx + gy*gy
	return n != 0 && x%n == 0 && y%n == 0
}

// greatestCommon goes through all that may be the answer.
func greatestCommon(a, b complex128, candidates []complex128) complex128 {
	var best complex128
	most := 0
	for _, g := range candidates {
		x, y := ints(g)
		if x > 0 && y >= 0 && goesInto(g, a) && goesInto(g, b) && x*x+y*y > most {
			best, most = g, x*x+y*y
		}
	}
	return best
}

// P1.4
func TestCommonAllSmall(t *testing.T) {
	candidates := square(9)
	for _, a := range square(6) {
		for _, b := range square(6) {
			var want complex128
			if a != 0 || b != 0 {
				want = greatestCommon(a, b, candidates)
			}
			g, e := Common(a, b)
			if g != want || e != api.OK {
				t.Fatalf("Common(%v, %v): %v, %d, not %v", a, b, g, e, want)
			}
			checkSignless(t, "Common", g)
		}
	}
}

func TestCommonAtTheEnds(t *testing.T) {
	minus := negativeZero()
	for _, c := range [][3]complex128{
		{5 + 5i, 3 + 1i, 3 + 1i},
		{0, 0, 0},
		{complex(minus, minus), complex(0, minus), 0},
		{complex(-top, -top), 0, complex(top, top)},
		{0, complex(top, -top), complex(top, top)},
		{complex(0, -top), complex(top, 0), top},
		{complex(minus, -7), 0, 7},
		{complex(top, top), complex(-top, top), complex(top, top)},
		{top, top - 1, 1},
		{832040, 514229, 1},
		{complex(-196418, 121393), complex(121393, 75025), 1},
		{(3 + 2i) * (100 + 7i), (3 + 2i) * (99 - 7i), 3 + 2i},
	} {
		g, e := Common(c[0], c[1])
		if g != c[2] || e != api.OK {
			t.Errorf("Common(%v, %v): %v, %d", c[0], c[1], g, e)
		}
		checkSignless(t, "Common", g)
	}
	for _, a := range edges() {
		for _, b := range edges() {
			g, e := Common(a, b)
			if a == 0 && b == 0 {
				continue
			}
			if e != api.OK || real(g) <= 0 || imag(g) < 0 || !goesInto(g, a) || !goesInto(g, b) {
				t.Fatalf("Common(%v, %v): %v, %d", a, b, g, e)
			}
			checkSignless(t, "Common", g)
		}
	}
}

// P1.5
func TestTurn(t *testing.T) {
	for _, z := range append(edges(), 0.5-3.25i, 1e300+2i, complex(math.Inf(1), 0), complex(2, math.Inf(-1)), complex(math.Inf(-1), math.Inf(1))) {
		x, y := real(z), imag(z)
		for rest, want := range []complex128{z, complex(-y, x), complex(-x, -y), complex(y, -x)} {
			for _, quarters := range []int{rest, rest + 4, rest - 4, rest - 8, rest + 1<<40, math.MinInt + rest, math.MaxInt - 3 + rest} {
				got := Turn(z, quarters)
				if got != want {
					t.Fatalf("Turn(%v, %d): %v", z, quarters, got)
				}
				checkSignless(t, "Turn", got)
			}
		}
	}
}

func TestTurnOfNaN(t *testing.T) {
	nan := math.NaN()
	for quarters, want := range []complex128{complex(nan, 5), complex(-5, nan), complex(nan, -5), complex(5, nan)} {
		got := Turn(complex(nan, 5), quarters)
		if !samePart(real(got), real(want)) || !samePart(imag(got), imag(want)) {
			t.Errorf("Turn(NaN + 5i, %d): %v", quarters, got)
		}
	}
	checkSignless(t, "Turn", Turn(complex(nan, 0), 1), Turn(complex(negativeZero(), nan), 0), Turn(complex(nan, 0), 2))
	if got := Turn(complex(nan, math.Inf(1)), 1); !math.IsInf(real(got), -1) || !math.IsNaN(imag(got)) {
		t.Errorf("Turn(NaN + Inf i, 1): %v", got)
	}
}

func samePart(a, b float64) bool { return a == b || math.IsNaN(a) && math.IsNaN(b) }
