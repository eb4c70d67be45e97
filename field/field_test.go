package field

import (
	"bytes"
	"math"
	"strings"
	"testing"

	"drydock/api"
	"drydock/spin"
)

// numbers answers the same numbers each time.
func numbers(seed uint32) func(below int) int {
	return func(below int) int {
		seed = seed*1664525 + 1013904223
		return int(seed>>8) % below
	}
}

// filled is a block whose bytes all differ from 0, and from their neighbours.
func filled() []byte {
	b := make([]byte, api.Block)
	for i := range b {
		b[i] = byte(i*37 + 100)
	}
	return b
}

// someBlocks are blocks of all kinds of bytes.
func someBlocks() [][]byte {
	list := [][]byte{make([]byte, api.Block), bytes.Repeat([]byte{255}, api.Block), filled()}
	next := numbers(3)
	for range 20 {
		b := make([]byte, api.Block)
		for i := range b {
			b[i] = byte(next(256))
		}
		list = append(list, b)
	}
	return list
}

// noBlocks have not Block bytes.
func noBlocks() [][]byte {
	return [][]byte{nil, {}, {1}, make([]byte, 60), make([]byte, api.Block-1), make([]byte, api.Block+1), make([]byte, 2*api.Block)}
}

// ints are the ends of what the calls take, and of what an int is.
func ints() []int {
	return []int{
		math.MinInt, math.MinInt + 1, math.MinInt32, -65, -61, -60, -5, -4, -3, -2, -1,
		0, 1, 2, 3, 4, 5, 6, 8, 30, 55, 56, 57, 58, 59, 60, 61, 62, 63, 64, 65,
		254, 255, 256, 257, 65534, 65535, 65536, 1<<24 - 1, 1 << 24, 1<<24 + 1,
		math.MaxInt32, math.MaxInt32 + 1, math.MaxUint32 - 1, math.MaxUint32, math.MaxUint32 + 1,
		1 << 40, 1 << 62, math.MaxInt - 61, math.MaxInt - 60, math.MaxInt - 4, math.MaxInt - 3, math.MaxInt - 1, math.MaxInt,
	}
}

// greatest is the greatest number that fits so many bytes.
func greatest(size int) int {
	return []int{0, 255, 65535, 16777215, 4294967295}[size]
}

// fits is said of numbers that can't wrap round.
func fits(at, size int) bool {
	for start := range 61 {
		if at == start && size <= 60-start {
			return true
		}
	}
	return false
}

// setError is what Set answers, by the document's words.
func setError(at, size, n int) api.Errno {
	switch {
	case size != 1 && size != 2 && size != 3 && size != 4, !fits(at, size):
		return api.ErrArg
	case n < 0 || n > greatest(size):
		return api.ErrRange
	}
	return api.OK
}

// laid is a block with bytes at a place, byte by byte.
func laid(b []byte, at int, s ...byte) []byte {
	var all []byte
	for i, x := range b {
		if i >= at && i < at+len(s) {
			x = s[i-at]
		}
		all = append(all, x)
	}
	return all
}

// P4.1: numbers, the least byte first.
func TestSetExamples(t *testing.T) {
	for _, c := range []struct {
		at, size, n int
		want        []byte
	}{
		{0, 1, 0, []byte{0}},
		{0, 1, 255, []byte{255}},
		{59, 1, 7, []byte{7}},
		{5, 2, 1, []byte{1, 0}},
		{5, 2, 0x1234, []byte{0x34, 0x12}},
		{58, 2, 65535, []byte{255, 255}},
		{57, 3, 0x123456, []byte{0x56, 0x34, 0x12}},
		{0, 3, 1 << 16, []byte{0, 0, 1}},
		{56, 4, 0x12345678, []byte{0x78, 0x56, 0x34, 0x12}},
		{0, 4, math.MaxUint32, []byte{255, 255, 255, 255}},
		{31, 4, 0xfedcba98, []byte{0x98, 0xba, 0xdc, 0xfe}},
		{1, 4, 0, []byte{0, 0, 0, 0}},
	} {
		for _, b := range someBlocks() {
			got, e := Set(b, c.at, c.size, c.n)
			if want := laid(b, c.at, c.want...); e != api.OK || !bytes.Equal(got, want) {
				t.Errorf("Set(%v, %d, %d, %d): %v %d, not %v", b, c.at, c.size, c.n, got, e, want)
			}
			n, e := Get(laid(b, c.at, c.want...), c.at, c.size)
			if e != api.OK || n != c.n {
				t.Errorf("Get(.., %d, %d): %d %d, not %d", c.at, c.size, n, e, c.n)
			}
		}
	}
}

// P4.1: each place, each size, and numbers at their ends: what is set is got, and nothing else is changed.
func TestSetAndGet(t *testing.T) {
	for _, at := range ints() {
		for _, size := range ints() {
			for _, n := range ints() {
				b, e := Set(filled(), at, size, n)
				if want := setError(at, size, n); e != want {
					t.Fatalf("Set(.., %d, %d, %d): %d, not %d", at, size, n, e, want)
				}
				if e != api.OK {
					if b != nil {
						t.Fatalf("Set(.., %d, %d, %d): %v beside %d", at, size, n, b, e)
					}
					continue
				}
				if got, e := Get(b, at, size); got != n || e != api.OK {
					t.Fatalf("Get of %d at %d, of %d bytes: %d %d", n, at, size, got, e)
				}
				if !bytes.Equal(laid(b, at, filled()[at:at+size]...), filled()) {
					t.Fatalf("Set(.., %d, %d, %d): %v", at, size, n, b)
				}
			}
		}
	}
}

// P4.1: all numbers of up to two bytes.
func TestSetOfAllSmallNumbers(t *testing.T) {
	for n := range 65540 {
		for size := 1; size <= 3; size++ {
			b, e := Set(filled(), 20, size, n)
			if n > greatest(size) {
				if e != api.ErrRange || b != nil {
					t.Fatalf("Set of %d in %d bytes: %v %d", n, size, b, e)
				}
				continue
			}
			want := laid(filled(), 20, []byte{byte(n % 256), byte(n / 256 % 256), byte(n / 65536)}[:size]...)
			if e != api.OK || !bytes.Equal(b, want) {
				t.Fatalf("Set of %d in %d bytes: %v %d", n, size, b, e)
			}
		}
	}
}

// P4.1: Get of any place, of any block.
func TestGet(t *testing.T) {
	for _, b := range someBlocks() {
		for _, at := range ints() {
			for _, size := range ints() {
				got, e := Get(b, at, size)
				if want := setError(at, size, 0); e != want {
					t.Fatalf("Get(%v, %d, %d): %d, not %d", b, at, size, e, want)
				}
				want := 0
				if e == api.OK {
					for i := size - 1; i >= 0; i-- {
						want = want*256 + int(b[at+i])
					}
				}
				if got != want {
					t.Fatalf("Get(%v, %d, %d): %d, not %d", b, at, size, got, want)
				}
			}
		}
	}
}

// P4.1: the ends of what may be at, one by one.
func TestNumbersEnds(t *testing.T) {
	for _, c := range []struct {
		at, size int
		want     api.Errno
	}{
		{0, 1, api.OK}, {0, 4, api.OK}, {56, 4, api.OK}, {57, 4, api.ErrArg}, {57, 3, api.OK}, {58, 3, api.ErrArg},
		{58, 2, api.OK}, {59, 2, api.ErrArg}, {59, 1, api.OK}, {60, 1, api.ErrArg}, {63, 1, api.ErrArg}, {64, 1, api.ErrArg},
		{60, 0, api.ErrArg}, {0, 0, api.ErrArg}, {0, 5, api.ErrArg}, {0, -1, api.ErrArg}, {61, -1, api.ErrArg}, {-1, 1, api.ErrArg}, {-1, 4, api.ErrArg},
		{math.MaxInt, 1, api.ErrArg}, {math.MaxInt, 4, api.ErrArg}, {0, math.MaxInt, api.ErrArg}, {math.MaxInt, math.MaxInt, api.ErrArg},
		{math.MinInt, 4, api.ErrArg}, {0, math.MinInt, api.ErrArg}, {math.MinInt, math.MinInt, api.ErrArg}, {60, math.MinInt, api.ErrArg}, {1 << 32, 1, api.ErrArg},
	} {
		if _, e := Get(filled(), c.at, c.size); e != c.want {
			t.Errorf("Get(.., %d, %d): %d, not %d", c.at, c.size, e, c.want)
		}
		if _, e := Set(filled(), c.at, c.size, 255); e != c.want {
			t.Errorf("Set(.., %d, %d, 255): %d, not %d", c.at, c.size, e, c.want)
		}
	}
}

// P4.1, P4.2, R2: what is no block is told ahead of all else, and nothing stands beside it.
func TestNoBlocks(t *testing.T) {
	for _, b := range noBlocks() {
		for _, n := range []int{0, 1, -1, 4, 60, 61, math.MaxInt, math.MinInt} {
			if got, e := Set(b, n, n, n); got != nil || e != api.ErrForm {
				t.Errorf("Set of %d bytes: %v %d", len(b), got, e)
			}
			if got, e := Get(b, n, n); got != 0 || e != api.ErrForm {
				t.Errorf("Get of %d bytes: %d %d", len(b), got, e)
			}
			if got, e := Text(b, n, "a"); got != nil || e != api.ErrForm {
				t.Errorf("Text of %d bytes: %v %d", len(b), got, e)
			}
		}
		if got, e := Seal(b); got != nil || e != api.ErrForm {
			t.Errorf("Seal of %d bytes: %v %d", len(b), got, e)
		}
		if Sealed(b) {
			t.Errorf("Sealed of %d bytes", len(b))
		}
	}
}

// P4.1, R2: a place that can't be is told ahead of a number that does not fit.
func TestSetTellsPlaceFirst(t *testing.T) {
	for _, n := range []int{-1, 256, math.MaxInt, math.MinInt} {
		for _, c := range [][2]int{{60, 1}, {-1, 1}, {0, 0}, {0, 5}, {61, -1}} {
			if b, e := Set(filled(), c[0], c[1], n); b != nil || e != api.ErrArg {
				t.Errorf("Set(.., %d, %d, %d): %v %d", c[0], c[1], n, b, e)
			}
		}
		if b, e := Set(filled(), 0, 1, n); b != nil || e != api.ErrRange {
			t.Errorf("Set(.., 0, 1, %d): %v %d", n, b, e)
		}
	}
}

// P4.2: texts of any length, at any place.
func TestText(t *testing.T) {
	for _, at := range ints() {
		for size := range 70 {
			s := strings.Repeat("\x00a\xff\nä", 20)[:size]
			b, e := Text(filled(), at, s)
			if !fits(at, size) {
				if b != nil || e != api.ErrArg {
					t.Fatalf("Text(.., %d, %q): %v %d", at, s, b, e)
				}
				continue
			}
			if want := laid(filled(), at, []byte(s)...); e != api.OK || !bytes.Equal(b, want) {
				t.Fatalf("Text(.., %d, %q): %v %d, not %v", at, s, b, e, want)
			}
		}
	}
}

// P4.2: the ends of what may be at, one by one.
func TestTextsEnds(t *testing.T) {
	for _, c := range []struct {
		at, size int
		want     api.Errno
	}{
		{0, 0, api.OK}, {60, 0, api.OK}, {61, 0, api.ErrArg}, {-1, 0, api.ErrArg}, {math.MaxInt, 0, api.ErrArg}, {math.MinInt, 0, api.ErrArg},
		{0, 60, api.OK}, {0, 61, api.ErrArg}, {1, 59, api.OK}, {1, 60, api.ErrArg}, {59, 1, api.OK}, {60, 1, api.ErrArg},
		{0, 100000, api.ErrArg}, {math.MaxInt, 1, api.ErrArg}, {math.MaxInt, 100000, api.ErrArg}, {-1, 1, api.ErrArg}, {-60, 60, api.ErrArg},
	} {
		if _, e := Text(filled(), c.at, strings.Repeat("x", c.size)); e != c.want {
			t.Errorf("Text at %d, of %d bytes: %d, not %d", c.at, c.size, e, c.want)
		}
	}
}

// P4.2: the check sum lies in the last four bytes, the least byte first.
func TestSeal(t *testing.T) {
	for _, b := range someBlocks() {
		sum := spin.Sum(b[:60])
		want := laid(b, 60, byte(sum), byte(sum>>8), byte(sum>>16), byte(sum>>24))
		got, e := Seal(b)
		if e != api.OK || !bytes.Equal(got, want) {
			t.Errorf("Seal(%v): %v %d, not %v", b, got, e, want)
		}
		if !Sealed(got) {
			t.Errorf("%v is not sealed", got)
		}
		if again, e := Seal(got); e != api.OK || !bytes.Equal(again, got) {
			t.Errorf("%v, sealed again: %v %d", got, again, e)
		}
	}
}

// P4.2: a block is sealed no more when one of its bits is another.
func TestSealedTellsEachBit(t *testing.T) {
	for _, b := range someBlocks() {
		sealed, _ := Seal(b)
		for at := range api.Block {
			for bit := range 8 {
				turned := bytes.Clone(sealed)
				turned[at] ^= 1 << bit
				if Sealed(turned) {
					t.Fatalf("%v is sealed, with bit %d of byte %d turned", sealed, bit, at)
				}
			}
		}
	}
	if Sealed(make([]byte, api.Block)) {
		t.Error("zeros are sealed")
	}
}

// P4.2: sealing is undone by what is set behind it, and done anew.
func TestSealBehindSet(t *testing.T) {
	b, _ := Seal(filled())
	changed, e := Set(b, 56, 4, 99)
	if e != api.OK || Sealed(changed) || !bytes.Equal(changed[60:], b[60:]) {
		t.Errorf("%v %d", changed, e)
	}
	changed, e = Text(b, 59, "!")
	if e != api.OK || Sealed(changed) || !bytes.Equal(changed[60:], b[60:]) {
		t.Errorf("%v %d", changed, e)
	}
	if anew, e := Seal(changed); e != api.OK || !Sealed(anew) || !bytes.Equal(anew[:60], changed[:60]) {
		t.Errorf("%v %d", anew, e)
	}
}

// P4.1, P4.2, R4: what is handed in is left as it is, and what is answered is new memory, spare room included.
func TestMemory(t *testing.T) {
	for name, call := range map[string]func(b []byte) ([]byte, api.Errno){
		"Set":        func(b []byte) ([]byte, api.Errno) { return Set(b, 10, 4, 1<<30+5) },
		"Text":       func(b []byte) ([]byte, api.Errno) { return Text(b, 10, "drydock") },
		"empty Text": func(b []byte) ([]byte, api.Errno) { return Text(b, 10, "") },
		"Seal":       Seal,
	} {
		room := append(filled(), filled()...)
		kept := bytes.Clone(room)
		first, _ := call(room[:api.Block])
		second, _ := call(room[:api.Block])
		if len(first) != api.Block || !bytes.Equal(room, kept) {
			t.Errorf("%s: %v became %v", name, kept, room)
		}
		before := bytes.Clone(second)
		clear(first[:cap(first)])
		if !bytes.Equal(room, kept) || !bytes.Equal(second, before) {
			t.Errorf("%s: an answer shares memory", name)
		}
	}
	sealed, _ := Seal(filled())
	room := append(sealed, 1, 2, 3)
	kept := bytes.Clone(room)
	if _, e := Get(room[:api.Block], 56, 4); e != api.OK || !Sealed(room[:api.Block]) || !bytes.Equal(room, kept) {
		t.Errorf("%v became %v", kept, room)
	}
}
