package entry

import (
	"bytes"
	"math"
	"slices"
	"strconv"
	"strings"
	"testing"

	"drydock/api"
	"drydock/spin"
)

// sealed is a block of these bytes, 0 behind them, and the check sum.
func sealed(first ...byte) []byte {
	b := make([]byte, 64)
	copy(b[:60], first)
	sum := spin.Sum(b[:60])
	b[60], b[61], b[62], b[63] = byte(sum), byte(sum>>8), byte(sum>>16), byte(sum>>24)
	return b
}

func of(node int, name string) api.Entry { return api.Entry{Node: node, Name: name} }

// isName says it byte by byte, by the document's words.
func isName(s string) bool {
	if len(s) < 1 || len(s) > 17 {
		return false
	}
	for i := range len(s) {
		if s[i] == '/' || s[i] == 0 {
			return false
		}
	}
	return s != "." && s != ".."
}

// isSound holds every two entries of all blocks against each other.
func isSound(blocks [][]api.Entry) bool {
	var all []api.Entry
	for _, list := range blocks {
		if len(list) > 3 {
			return false
		}
		all = append(all, list...)
	}
	for i, x := range all {
		if x.Node < 0 || x.Node > 31 || !isName(x.Name) {
			return false
		}
		for _, y := range all[:i] {
			if x.Name == y.Name {
				return false
			}
		}
	}
	return true
}

// bytesOf lays entries byte by byte, by the document's words; of a name too long, and of numbers too great, what fits.
func bytesOf(list []api.Entry) []byte {
	b := make([]byte, 60+256)
	b[0] = byte(len(list))
	for i, x := range list {
		if i < 3 {
			b[2+19*i], b[3+19*i] = byte(x.Node), byte(len(x.Name))
			copy(b[4+19*i:], x.Name)
		}
	}
	return sealed(b[:60]...)
}

// entriesOf reads a block by the document's words; false, if it is none of entries.
func entriesOf(b []byte) ([]api.Entry, bool) {
	if len(b) != 64 || !bytes.Equal(b, sealed(b[:60]...)) || b[0] > 3 {
		return nil, false
	}
	var list []api.Entry
	rest := bytes.Clone(b[:60])
	rest[0] = 0
	for i := range int(b[0]) {
		at, size := 2+19*i, int(b[3+19*i])
		if size > 17 {
			return nil, false
		}
		list = append(list, of(int(b[at]), string(b[at+2:at+2+size])))
		clear(rest[at : at+2+size])
	}
	return list, isSound([][]api.Entry{list}) && bytes.Equal(rest, make([]byte, 60))
}

// ints are numbers round all ends of what is sound, those that look sound when they are cut to fewer bytes, and the ends of what an int is.
func ints() []int {
	return []int{
		math.MinInt, math.MinInt + 1, math.MinInt32, -256, -255, -32, -31, -1, 0, 1, 2, 30, 31, 32, 33, 127, 128, 255, 256, 257, 287,
		65535, 65536, 65537, math.MaxInt32, 1 << 31, 1 << 32, 1<<32 + 1, math.MaxInt - 1, math.MaxInt,
	}
}

// names are sound ones and others, at their ends.
func names() []string {
	return []string{
		"", "a", "b", ".", "..", "...", "....", ".a", "a.", "..a", "a..", ". ", " .", ".\x01", ". .", "/", "a/", "/a", "a/b", "//", "\x00", "a\x00", "\x00a", "a\x00b",
		" ", "\n", "\x01", "\x7f", "\xff", "\xff\xfe", "\xc0\xaf", "\xc0\x80", "\xef\xbc\x8f", "ä", "\u2215", "/\xff", "\xff/", "\xff\x00",
		"0123456789abcdef", "0123456789abcdefg", "0123456789abcdefgh", "0123456789abcde/", "0123456789abcdef/", "0123456789abcdef\x00", "\x000123456789abcdef", "................", ".................",
		"0123456789abcdef0123456789abcdefghi", strings.Repeat("x", 255), strings.Repeat("x", 256), strings.Repeat("x", 257), strings.Repeat("y", 65537), "\xff\xff\xff\xff\xff\xff\xff\xff\xff\xff\xff\xff\xff\xff\xff\xff\xff",
	}
}

func someLists() [][]api.Entry {
	return [][]api.Entry{
		nil, {of(0, "a")}, {of(31, "0123456789abcdefg")}, {of(5, "x"), of(5, "y")}, {of(1, "b"), of(0, "a"), of(31, "...")},
		{of(7, "abcdefghijklmnopq"), of(8, "bcdefghijklmnopqr"), of(9, "cdefghijklmnopqrs")}, {of(2, "\xff"), of(3, "\n ä"), of(4, "\x01")},
	}
}

// numbers answers the same numbers each time.
func numbers(seed uint32) func(below int) int {
	return func(below int) int {
		seed = seed*1664525 + 1013904223
		return int(seed>>8) % below
	}
}

func encodes(t *testing.T, list []api.Entry, want []byte) {
	t.Helper()
	if b, e := Encode(list...); e != api.OK || !bytes.Equal(b, want) {
		t.Fatalf("Encode(%v): %v %d, not %v", list, b, e, want)
	}
	if got, e := Decode(want); e != api.OK || !slices.Equal(got, list) {
		t.Fatalf("Decode(%v): %v %d, not %v", want, got, e, list)
	}
}

// encodesNot sees that the error stands alone, as decodesNot does.
func encodesNot(t *testing.T, list []api.Entry) {
	t.Helper()
	if b, e := Encode(list...); e != api.ErrForm || b != nil {
		t.Fatalf("Encode(%v): %v %d", list, b, e)
	}
}

func decodesNot(t *testing.T, b []byte) {
	t.Helper()
	if list, e := Decode(b); e != api.ErrForm || list != nil {
		t.Fatalf("Decode(%v): %v %d", b, list, e)
	}
}

// judges holds Encode, and Decode of the bytes that the entries would have, against the words.
func judges(t *testing.T, list []api.Entry) {
	t.Helper()
	if isSound([][]api.Entry{list}) {
		encodes(t, list, bytesOf(list))
	} else {
		encodesNot(t, list)
		judgesBytes(t, bytesOf(list))
	}
}

func judgesBytes(t *testing.T, b []byte) {
	t.Helper()
	if list, ok := entriesOf(b); ok {
		encodes(t, list, b)
	} else {
		decodesNot(t, b)
	}
}

// P10.1: bytes written out, check sums too.
func TestBytes(t *testing.T) {
	b := make([]byte, 64)
	copy(b[60:], []byte{146, 113, 179, 227})
	encodes(t, nil, b)
	b = make([]byte, 64)
	copy(b, []byte{3, 0, 1, 1, 'b'})
	copy(b[21:], "\x1f\x110123456789abcdefg\x00\x03...")
	copy(b[60:], []byte{158, 70, 223, 237})
	encodes(t, []api.Entry{of(1, "b"), of(31, "0123456789abcdefg"), of(0, "...")}, b)
}

// P10.1: which texts are names.
func TestNamed(t *testing.T) {
	for _, s := range names() {
		if Named(s) != isName(s) {
			t.Errorf("Named(%q): %v", s, Named(s))
		}
	}
	for size := range 20 {
		for c := range 256 {
			s := strings.Repeat(string([]byte{byte(c)}), size)
			if Named(s) != isName(s) {
				t.Errorf("Named(%q): %v", s, Named(s))
			}
		}
	}
}

// P10.1: one wrong byte is enough, wherever it is.
func TestNamedBytes(t *testing.T) {
	for size := 1; size < 19; size++ {
		for at := range size {
			for c := range 256 {
				s := []byte(strings.Repeat(".", size))
				s[at] = byte(c)
				if Named(string(s)) != isName(string(s)) {
					t.Errorf("Named(%q): %v", s, Named(string(s)))
				}
			}
		}
	}
}

// P10.1: each Node at its ends and beyond them, in each place.
func TestNodes(t *testing.T) {
	for _, list := range someLists() {
		for i := range list {
			for _, n := range ints() {
				other := slices.Clone(list)
				other[i].Node = n
				judges(t, other)
			}
		}
	}
}

// P10.1: each name, in each place.
func TestNames(t *testing.T) {
	for _, list := range someLists() {
		judges(t, list)
		for i := range list {
			for _, s := range names() {
				other := slices.Clone(list)
				other[i].Name = s
				judges(t, other)
			}
		}
	}
}

// P10.1: no two entries of one name, whatever their nodes.
func TestNamesTwice(t *testing.T) {
	for i := range 3 {
		for k := range 3 {
			for n := range 3 {
				list := []api.Entry{of(1, "abc"), of(2, "ab"), of(3, "abcd")}
				list[i].Name = list[k].Name
				list[i].Node = n
				judges(t, list)
			}
		}
	}
}

// P10.1: 3 entries, and one more.
func TestTooManyEntries(t *testing.T) {
	var list []api.Entry
	for i := range 300 {
		judges(t, list)
		list = append(list, of(i%32, "n"+strconv.Itoa(i)))
	}
	judges(t, make([]api.Entry, 3))
	judges(t, []api.Entry{of(0, "a"), {}})
	judges(t, []api.Entry{of(0, "a"), of(1, "b"), of(2, "c"), {}})
}

// P10.1: each byte is looked at, though the check sum is right.
func TestOtherBytes(t *testing.T) {
	for _, list := range someLists() {
		for at := range 60 {
			for x := range 256 {
				b := bytesOf(list)
				b[at] = byte(x)
				judgesBytes(t, sealed(b[:60]...))
			}
		}
	}
}

// P10.1: other lengths of names, with bytes behind them or without.
func TestOtherLengths(t *testing.T) {
	for count := range 5 {
		for i := range 3 {
			for size := range 256 {
				for _, c := range []byte{0, '.', '/', 'x', 255} {
					b := bytesOf([]api.Entry{of(1, "aa"), of(2, "bb"), of(3, "cc")})
					b[0], b[3+19*i] = byte(count), byte(size)
					for k := range min(size, 17) {
						b[4+19*i+k] = c
					}
					judgesBytes(t, sealed(b[:60]...))
				}
			}
		}
	}
}

// P10.1: no bit may be turned, those of the check sum neither.
func TestTurnedBits(t *testing.T) {
	for _, list := range someLists() {
		for at := range 64 {
			for bit := range 8 {
				b := bytesOf(list)
				b[at] ^= 1 << bit
				decodesNot(t, b)
			}
		}
	}
}

// P10.1, R1: what is no block at all.
func TestNoBlocks(t *testing.T) {
	list := [][]byte{nil, {}, {0}, {3}, {255}, make([]byte, 63), make([]byte, 64), make([]byte, 128), bytes.Repeat([]byte{255}, 64), sealed(bytes.Repeat([]byte{255}, 60)...), sealed(bytes.Repeat([]byte{3}, 60)...)}
	for _, entries := range someLists() {
		b := bytesOf(entries)
		list = append(list, b[:1], b[:3], b[:60], b[:63], b[:63:63], append(bytes.Clone(b), 0), append(bytes.Clone(b), b...), append([]byte{0}, b...), append(bytes.Clone(b), make([]byte, 1000)...))
	}
	for _, b := range list {
		decodesNot(t, b)
	}
}

// equal takes nil and empty lists as the same.
func equal(a, b [][]api.Entry) bool {
	return slices.EqualFunc(a, b, func(x, y []api.Entry) bool { return slices.Equal(x, y) })
}

func copied(blocks [][]api.Entry) [][]api.Entry {
	var all [][]api.Entry
	for _, list := range blocks {
		all = append(all, append([]api.Entry{}, list...))
	}
	return all
}

// found looks through the blocks from the first on.
func found(blocks [][]api.Entry, name string) (int, int, api.Errno) {
	if !isName(name) {
		return 0, 0, api.ErrArg
	}
	if len(blocks) > 96 || !isSound(blocks) {
		return 0, 0, api.ErrForm
	}
	for i, list := range blocks {
		for k, x := range list {
			if x.Name == name {
				return i, k, api.OK
			}
		}
	}
	return 0, 0, api.ErrNone
}

func added(blocks [][]api.Entry, x api.Entry) ([][]api.Entry, int, api.Errno) {
	if x.Node < 0 || x.Node > 31 {
		return nil, 0, api.ErrArg
	}
	_, _, e := found(blocks, x.Name)
	if e == api.OK {
		return nil, 0, api.ErrThere
	}
	if e != api.ErrNone {
		return nil, 0, e
	}
	all := copied(blocks)
	for i, list := range all {
		if len(list) != 3 {
			all[i] = append(list, x)
			return all, i, api.OK
		}
	}
	if len(all) == 96 {
		return nil, 0, api.ErrFull
	}
	return append(all, []api.Entry{x}), len(all), api.OK
}

func removed(blocks [][]api.Entry, name string) ([][]api.Entry, int, api.Errno) {
	block, at, e := found(blocks, name)
	if e != api.OK {
		return nil, 0, e
	}
	all := copied(blocks)
	all[block] = nil
	for k, x := range blocks[block] {
		if k != at {
			all[block] = append(all[block], x)
		}
	}
	return all, block, api.OK
}

// changes holds Find, Add and Remove of one entry against the words.
func changes(t *testing.T, blocks [][]api.Entry, x api.Entry) {
	t.Helper()
	kept := copied(blocks)
	block, at, e := Find(blocks, x.Name)
	if b, a, f := found(blocks, x.Name); block != b || at != a || e != f {
		t.Fatalf("Find(%v, %v): %d %d %d, not %d %d %d", blocks, x.Name, block, at, e, b, a, f)
	}
	all, n, e := Add(blocks, x)
	if want, m, f := added(blocks, x); !equal(all, want) || n != m || e != f || e != api.OK && all != nil {
		t.Fatalf("Add(%v, %v): %v %d %d, not %v %d %d", blocks, x, all, n, e, want, m, f)
	}
	all, n, e = Remove(blocks, x.Name)
	if want, m, f := removed(blocks, x.Name); !equal(all, want) || n != m || e != f || e != api.OK && all != nil {
		t.Fatalf("Remove(%v, %v): %v %d %d, not %v %d %d", blocks, x.Name, all, n, e, want, m, f)
	}
	if !equal(blocks, kept) {
		t.Fatalf("%v became %v", kept, blocks)
	}
}

func someBlocks() [][][]api.Entry {
	a, b, c, d := of(1, "a"), of(2, "b"), of(3, "c"), of(4, "d")
	return [][][]api.Entry{
		nil, {}, {nil}, {{}}, {nil, {}, nil}, {{a}}, {{a, b}}, {{a, b, c}}, {{a, b, c}, nil}, {{a, b, c}, {d}}, {{a, b}, {c, d}}, {nil, {a, b, c}}, {{a, b, c}, nil, {d}}, {{d}, {c}, {b}, {a}},
	}
}

// full is so many blocks of 3 entries each.
func full(count int) [][]api.Entry {
	var all [][]api.Entry
	for i := range count {
		s := strconv.Itoa(i)
		all = append(all, []api.Entry{of(i%32, "a"+s), of(i%32, "b"+s), of(i%32, "c"+s)})
	}
	return all
}

// P10.2: blocks of every shape, and names that are there, that are not, and that are none.
func TestChanges(t *testing.T) {
	for _, blocks := range someBlocks() {
		for _, s := range append(names(), "c", "d", "e", "aa", "A") {
			for _, n := range []int{0, 1, 31} {
				changes(t, blocks, of(n, s))
			}
		}
	}
}

// P10.2: an answer written out.
func TestChangesWritten(t *testing.T) {
	blocks := [][]api.Entry{{of(1, "a"), of(2, "b"), of(3, "c")}, {of(4, "d")}}
	if block, at, e := Find(blocks, "d"); block != 1 || at != 0 || e != api.OK {
		t.Errorf("Find: %d %d %d", block, at, e)
	}
	if block, at, e := Find(blocks, "c"); block != 0 || at != 2 || e != api.OK {
		t.Errorf("Find: %d %d %d", block, at, e)
	}
	all, n, e := Add(blocks, of(5, "e"))
	if !equal(all, [][]api.Entry{{of(1, "a"), of(2, "b"), of(3, "c")}, {of(4, "d"), of(5, "e")}}) || n != 1 || e != api.OK {
		t.Errorf("Add: %v %d %d", all, n, e)
	}
	all, n, e = Remove(all, "a")
	if !equal(all, [][]api.Entry{{of(2, "b"), of(3, "c")}, {of(4, "d"), of(5, "e")}}) || n != 0 || e != api.OK {
		t.Errorf("Remove: %v %d %d", all, n, e)
	}
	all, n, e = Add(all, of(6, "a"))
	if !equal(all, [][]api.Entry{{of(2, "b"), of(3, "c"), of(6, "a")}, {of(4, "d"), of(5, "e")}}) || n != 0 || e != api.OK {
		t.Errorf("Add: %v %d %d", all, n, e)
	}
	all, n, e = Remove([][]api.Entry{{of(1, "a")}}, "a")
	if len(all) != 1 || len(all[0]) != 0 || n != 0 || e != api.OK {
		t.Errorf("Remove: %v %d %d", all, n, e)
	}
}

// P10.2: Nodes at their ends: ErrArg ahead of all else.
func TestChangesNodes(t *testing.T) {
	for _, blocks := range append(someBlocks(), [][]api.Entry{{of(32, "a")}}, full(96), full(97)) {
		for _, n := range ints() {
			for _, s := range []string{"a", "e", "a0", "", ".."} {
				changes(t, blocks, of(n, s))
			}
		}
	}
}

// P10.2: entries that are not sound, wherever they stand: ErrForm behind ErrArg, ahead of all else.
func TestChangesNotSound(t *testing.T) {
	for _, wrong := range [][]api.Entry{
		{of(-1, "w")}, {of(32, "w")}, {of(math.MaxInt, "w")}, {of(math.MinInt, "w")}, {of(256, "w")}, {of(1, "")}, {of(1, ".")}, {of(1, "..")}, {of(1, "v/w")}, {of(1, "v\x00")}, {of(1, "0123456789abcdefgh")}, {{}},
		{of(1, "w"), of(1, "w")}, {of(1, "w"), of(2, "v"), of(3, "w")}, {of(1, "w"), of(1, "v"), of(1, "u"), of(1, "t")}, {of(1, "w"), of(1, "v"), of(1, "u"), {}},
		{of(5, "a")}, {of(1, "c")}, {of(9, "x"), of(4, "d")},
	} {
		for _, blocks := range [][][]api.Entry{
			{wrong}, {nil, wrong}, {wrong, nil}, {{of(1, "a"), of(3, "c")}, wrong, {of(4, "d")}}, {wrong, {of(1, "a"), of(3, "c"), of(4, "d")}}, {{of(1, "a"), of(3, "c"), of(4, "d")}, wrong},
		} {
			for _, s := range []string{"a", "w", "z", "", "..", "x/"} {
				changes(t, blocks, of(1, s))
				changes(t, blocks, of(-1, s))
			}
		}
	}
}

// P10.2: MaxFile blocks, one less, and one more.
func TestChangesFull(t *testing.T) {
	for count := 93; count < 100; count++ {
		for _, s := range []string{"a0", "b92", "c95", "c96", "new", "0/", ""} {
			changes(t, full(count), of(3, s))
		}
	}
	for at := range 96 {
		blocks := full(96)
		blocks[at] = blocks[at][:at%3]
		changes(t, blocks, of(3, "new"))
		changes(t, blocks, of(3, "a0"))
	}
	blocks := full(96)
	blocks[40], blocks[50] = nil, blocks[50][1:]
	changes(t, blocks, of(3, "new"))
	changes(t, make([][]api.Entry, 96), of(3, "new"))
	changes(t, make([][]api.Entry, 97), of(3, "new"))
	changes(t, make([][]api.Entry, 100000), of(3, "new"))
}

// P10.2: the calls one behind the other, over the same few names.
func TestChangesInTurn(t *testing.T) {
	next := numbers(10)
	for range 40 {
		var blocks [][]api.Entry
		limit := 1 + next(330)
		for range 500 {
			x := of(next(34)-1, "n"+strconv.Itoa(next(limit)))
			changes(t, blocks, x)
			after, _, e := Add(blocks, x)
			if e == api.ErrThere && next(2) == 0 {
				after, _, e = Remove(blocks, x.Name)
			}
			if e == api.OK {
				blocks = after
			}
		}
		for _, list := range blocks {
			encodes(t, list, bytesOf(list))
		}
	}
}

// P10.2, R4: what is answered is new memory, spare room included, and what is handed in is left as it is, spare room too.
func TestMemory(t *testing.T) {
	spare := of(77, "spare")
	for _, shape := range someBlocks() {
		room := make([][]api.Entry, 0, len(shape)+2)
		for _, list := range shape {
			room = append(room, append(slices.Clone(list), spare, spare)[:len(list)])
		}
		blocks := append(room, []api.Entry{spare}, []api.Entry{spare})[:len(shape)]
		for _, s := range []string{"a", "c", "e"} {
			first, _, _ := Add(blocks, of(1, s))
			second, _, _ := Remove(blocks, s)
			third, _, _ := Add(blocks, of(1, s))
			fourth, _, _ := Remove(blocks, s)
			for _, all := range [][][]api.Entry{first, second} {
				for _, list := range all {
					clear(list[:cap(list)])
				}
				clear(all[:cap(all)])
			}
			if want, _, _ := added(blocks, of(1, s)); !equal(third, want) {
				t.Errorf("Add(%v, %v): answers share memory: %v", shape, s, third)
			}
			if want, _, _ := removed(blocks, s); !equal(fourth, want) {
				t.Errorf("Remove(%v, %v): answers share memory: %v", shape, s, fourth)
			}
			if !equal(blocks, shape) {
				t.Errorf("%v became %v", shape, blocks)
			}
			for i, list := range blocks {
				if behind := list[len(list) : len(list)+2]; !slices.Equal(behind, []api.Entry{spare, spare}) {
					t.Errorf("%v, block %d: behind it lies %v", shape, i, behind)
				}
			}
			if behind := blocks[len(blocks) : len(blocks)+2]; !equal(behind, [][]api.Entry{{spare}, {spare}}) {
				t.Errorf("%v: behind it lies %v", shape, behind)
			}
		}
	}
}

// P10.1, R4
func TestMemoryOfBlocks(t *testing.T) {
	for _, list := range someLists() {
		entries := append(slices.Clone(list), of(-5, "spare"))
		kept := slices.Clone(entries)
		room := append(bytesOf(list), 1, 2, 3)
		keptRoom := bytes.Clone(room)
		first, _ := Encode(entries[:len(list)]...)
		second, _ := Encode(entries[:len(list)]...)
		clear(first[:cap(first)])
		a, _ := Decode(room[:64])
		b, _ := Decode(room[:64])
		clear(a[:cap(a)])
		third := slices.Clone(room[:64])
		c, _ := Decode(third)
		clear(third)
		if !slices.Equal(entries, kept) || !bytes.Equal(room, keptRoom) {
			t.Errorf("%v: what was handed in is changed: %v, %v", list, entries, room)
		}
		if !bytes.Equal(second, keptRoom[:64]) || !slices.Equal(b, list) || !slices.Equal(c, list) {
			t.Errorf("%v: answers share memory", list)
		}
	}
}
