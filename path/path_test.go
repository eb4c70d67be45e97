package path

import (
	"slices"
	"strconv"
	"strings"
	"testing"
	"unsafe"

	"drydock/api"
)

// isName says it byte by byte, by the document's words.
func isName(s string) bool {
	if len(s) < 1 || len(s) > 17 {
		return false
	}
	for i := range len(s) {
		if s[i] == '/' || s[i] == 0 {
			return false
		}
	}
	return s != "." && s != ".."
}

// partsOf are what lies between the /, behind the first one, byte by byte.
func partsOf(s string) []string {
	parts := []string{""}
	for i := 1; i < len(s); i++ {
		if s[i] == '/' {
			parts = append(parts, "")
		} else {
			parts[len(parts)-1] += string(s[i : i+1])
		}
	}
	return parts
}

// splitOf says by the document's words what Split answers.
func splitOf(s string) ([]string, api.Errno) {
	if len(s) > 1024 {
		return nil, api.ErrFull
	}
	if len(s) == 0 || s[0] != '/' {
		return nil, api.ErrForm
	}
	var names [17]string
	depth := 0
	for _, part := range partsOf(s) {
		if part == "" || part == "." {
			continue
		}
		if part == ".." {
			if depth > 0 {
				depth--
			}
			continue
		}
		if !isName(part) {
			return nil, api.ErrName
		}
		names[depth] = part
		depth++
		if depth > 16 {
			return nil, api.ErrFull
		}
	}
	return slices.Clone(names[:depth]), api.OK
}

func joinOf(names []string) (string, api.Errno) {
	if len(names) > 16 {
		return "", api.ErrFull
	}
	s := "/"
	for i, name := range names {
		if !isName(name) {
			return "", api.ErrName
		}
		if i > 0 {
			s += "/"
		}
		s += name
	}
	return s, api.OK
}

func underOf(s, within string) (bool, api.Errno) {
	names, e := splitOf(s)
	if e != api.OK {
		return false, e
	}
	first, e := splitOf(within)
	if e != api.OK {
		return false, e
	}
	for i, name := range first {
		if i >= len(names) || names[i] != name {
			return false, api.OK
		}
	}
	return true, api.OK
}

// splits holds Split against the words, and Join against Split: the shortest path of what was split leads to the same names.
func splits(t *testing.T, s string) {
	t.Helper()
	want, f := splitOf(s)
	got, e := Split(s)
	if !slices.Equal(got, want) || e != f || e != api.OK && got != nil {
		t.Fatalf("Split(%q): %q %d, not %q %d", s, got, e, want, f)
	}
	if e != api.OK {
		return
	}
	joins(t, got)
	short, _ := Join(got...)
	if again, e := Split(short); e != api.OK || !slices.Equal(again, got) {
		t.Fatalf("Split(%q): %q %d, not %q", short, again, e, got)
	}
}

func joins(t *testing.T, names []string) {
	t.Helper()
	want, f := joinOf(names)
	if s, e := Join(names...); s != want || e != f {
		t.Fatalf("Join(%q): %q %d, not %q %d", names, s, e, want, f)
	}
}

func unders(t *testing.T, s, within string) {
	t.Helper()
	want, f := underOf(s, within)
	if is, e := Under(s, within); is != want || e != f {
		t.Fatalf("Under(%q, %q): %v %d, not %v %d", s, within, is, e, want, f)
	}
}

// texts are names at their ends, and what is none, and what is gone through otherwise.
func texts() []string {
	return []string{
		"", "a", "b", ".", "..", "...", "....", ".a", "a.", "..a", "a..", ". ", " .", ".\x01", "..\x01", ". .", "\x00", ".\x00", "..\x00", "a\x00", "\x00a", "a\x00b",
		" ", "\\", "~", "*", "\n", "\x01", "\x7f", "\xff", "\xff\xfe", "\xc0\xaf", "\xef\xbc\x8f", "ä", "\u2215", "\xc0\x80",
		"0123456789abcdef", "0123456789abcdefg", "0123456789abcdefgh", "0123456789abcdef\x00", ".................", "..................", "ääääääää", "ääääääääx", "äääääääää",
		strings.Repeat("x", 64), strings.Repeat("x", 255), strings.Repeat("x", 256), strings.Repeat("x", 257), strings.Repeat("x", 1023),
	}
}

// deep is a path of so many names.
func deep(names int) string {
	s := ""
	for i := range names {
		s += "/n" + strconv.Itoa(i)
	}
	return s
}

// long is a path of so many bytes that has the names of s.
func long(s string, size int) string {
	return s + strings.Repeat("/", size-len(s))
}

// numbers answers the same numbers each time.
func numbers(seed uint32) func(below int) int {
	return func(below int) int {
		seed = seed*1664525 + 1013904223
		return int(seed>>8) % below
	}
}

// each goes through all texts of at most so many of these pieces.
func each(pieces []string, most int, do func(s string)) {
	do("")
	if most == 0 {
		return
	}
	for _, piece := range pieces {
		each(pieces, most-1, func(s string) { do(piece + s) })
	}
}

// P14.1: answers written out.
func TestSplitWritten(t *testing.T) {
	for _, c := range []struct {
		s    string
		want []string
	}{
		{"//a/./b/../c/", []string{"a", "c"}},
		{"/", nil}, {"//", nil}, {"///", nil}, {"/.", nil}, {"/./", nil}, {"/./.", nil},
		{"/a", []string{"a"}}, {"/a/", []string{"a"}}, {"//a", []string{"a"}}, {"/./a/.", []string{"a"}},
		{"/a/b", []string{"a", "b"}}, {"/b/a", []string{"b", "a"}}, {"/a/a", []string{"a", "a"}}, {"/a//b", []string{"a", "b"}},
		{"/..", nil}, {"/../..", nil}, {"/../a", []string{"a"}}, {"/a/..", nil}, {"/a/../..", nil}, {"/a/../../b", []string{"b"}},
		{"/a/b/..", []string{"a"}}, {"/a/b/../..", nil}, {"/a/b/../../c/d", []string{"c", "d"}}, {"/a/./../b", []string{"b"}}, {"/a//../b", []string{"b"}},
		{"/...", []string{"..."}}, {"/.a/..b/c..", []string{".a", "..b", "c.."}}, {"/ / .", []string{" ", " ."}}, {"/a b/\n/\xff", []string{"a b", "\n", "\xff"}},
		{"/0123456789abcdefg", []string{"0123456789abcdefg"}},
	} {
		if got, e := Split(c.s); e != api.OK || !slices.Equal(got, c.want) {
			t.Errorf("Split(%q): %q %d, not %q", c.s, got, e, c.want)
		}
	}
}

// P14.1: errors written out, each with nothing beside it.
func TestSplitErrorsWritten(t *testing.T) {
	for _, c := range []struct {
		s string
		e api.Errno
	}{
		{"", api.ErrForm}, {"a", api.ErrForm}, {"a/b", api.ErrForm}, {".", api.ErrForm}, {"..", api.ErrForm}, {"./a", api.ErrForm}, {"../a", api.ErrForm}, {" /a", api.ErrForm}, {"\x00/a", api.ErrForm}, {"\\a", api.ErrForm}, {"\xef\xbc\x8fa", api.ErrForm},
		{"0123456789abcdefgh", api.ErrForm}, {"\x00", api.ErrForm}, {strings.Repeat("a/", 40), api.ErrForm},
		{"/0123456789abcdefgh", api.ErrName}, {"/\x00", api.ErrName}, {"/a/\x00b", api.ErrName}, {"/a/b\x00/c", api.ErrName}, {"/.\x00", api.ErrName}, {"/0123456789abcdefgh/..", api.ErrName}, {"/../\x00", api.ErrName},
	} {
		if got, e := Split(c.s); e != c.e || got != nil {
			t.Errorf("Split(%q): %q %d, not %d", c.s, got, e, c.e)
		}
	}
}

// P14.1: all paths of few bytes, and texts that are none.
func TestSplitShort(t *testing.T) {
	each([]string{"/", ".", "a", "\x00"}, 8, func(s string) { splits(t, s) })
}

// P14.1: all paths of few parts, with each kind of part in each place.
func TestSplitParts(t *testing.T) {
	each([]string{"/a", "/b", "/.", "/..", "/", "/...", "/0123456789abcdefg", "/0123456789abcdefgh"}, 5, func(s string) {
		splits(t, s)
		splits(t, s+"/")
	})
}

// P14.1: every byte at a part's ends, and parts of each length.
func TestSplitBytes(t *testing.T) {
	for c := range 256 {
		b := string([]byte{byte(c)})
		for size := range 20 {
			splits(t, "/"+strings.Repeat(b, size))
			splits(t, "/x/"+strings.Repeat("y", size)+b)
			splits(t, "/x/"+b+strings.Repeat("y", size)+"/z")
		}
		splits(t, b)
		splits(t, b+"/a")
	}
	for _, s := range texts() {
		for _, ahead := range []string{"", "/", "/a/", "/..", "/../", "/a/../", "//"} {
			for _, behind := range []string{"", "/", "/b", "/..", "/../", "\x00"} {
				splits(t, ahead+s+behind)
			}
		}
	}
}

// P14.1: at most 1024 bytes, whatever they are; more of them come ahead of all other errors.
func TestSplitLong(t *testing.T) {
	for _, s := range []string{"", "/", "/a", "/a/b/..", deep(16), deep(17), "/\x00", "/0123456789abcdefgh", "a"} {
		for size := 1020; size < 1030; size++ {
			splits(t, long(s, size))
			splits(t, s+strings.Repeat("x", size-len(s)))
			splits(t, s+strings.Repeat("/.", 400)+strings.Repeat("/", size-len(s)-800))
		}
		for _, size := range []int{2048, 1 << 16, 1<<16 + 1024, 1 << 20} {
			splits(t, long(s, size))
		}
	}
	if got, e := Split(long("/a", 1024)); e != api.OK || !slices.Equal(got, []string{"a"}) {
		t.Errorf("Split of 1024 bytes: %q %d", got, e)
	}
	for _, s := range []string{long("/a", 1025), strings.Repeat("a", 1025), strings.Repeat("\x00", 1025), "/" + strings.Repeat("a/", 512)} {
		if got, e := Split(s); e != api.ErrFull || got != nil {
			t.Errorf("Split(%q): %q %d", s, got, e)
		}
	}
}

// P14.1: at most MaxDepth names at once, however many there were.
func TestSplitDeep(t *testing.T) {
	for n := range 40 {
		for _, behind := range []string{"", "/", "/.", "//.//", "/..", "/../a", "/../a/b", "/../../a/b", "/../../a/b/c", "/../../../a"} {
			splits(t, deep(n)+behind)
			splits(t, "/../x/.."+deep(n)+behind)
		}
	}
	if got, e := Split(deep(16)); e != api.OK || len(got) != 16 || got[0] != "n0" || got[15] != "n15" {
		t.Errorf("Split of 16 names: %q %d", got, e)
	}
	if got, e := Split(deep(16) + "/../x"); e != api.OK || len(got) != 16 || got[15] != "x" {
		t.Errorf("Split of 17 names, but not at once: %q %d", got, e)
	}
	for _, s := range []string{deep(17), deep(17) + "/..", deep(17) + strings.Repeat("/..", 17), deep(16) + "/../x/y", deep(17) + "/../../.."} {
		if got, e := Split(s); e != api.ErrFull || got != nil {
			t.Errorf("Split(%q): %q %d", s, got, e)
		}
	}
	splits(t, strings.Repeat("/a/..", 200))
	splits(t, strings.Repeat("/a", 16)+strings.Repeat("/../b", 190))
	splits(t, strings.Repeat("/..", 300)+strings.Repeat("/a", 16))
	splits(t, strings.Repeat("/0123456789abcdefg", 16))
	splits(t, strings.Repeat("/a", 512))
}

// P14.1: parts are gone through from the first on: the first one that is wrong tells the error.
func TestSplitFirstError(t *testing.T) {
	for _, c := range []struct {
		s string
		e api.Errno
	}{
		{deep(16) + "/\x00", api.ErrName}, {deep(15) + "/\x00/a/b", api.ErrName}, {"/\x00" + deep(17), api.ErrName}, {deep(17) + "/\x00", api.ErrFull}, {deep(16) + "/a/../\x00", api.ErrFull}, {deep(16) + "/../\x00/a/b/c", api.ErrName},
	} {
		if got, e := Split(c.s); e != c.e || got != nil {
			t.Errorf("Split(%q): %q %d, not %d", c.s, got, e, c.e)
		}
		splits(t, c.s)
	}
	for n := range 20 {
		for at := range n + 1 {
			for _, wrong := range []string{"/\x00", "/0123456789abcdefgh", "/a\x00/.."} {
				splits(t, deep(at)+wrong+deep(n-at))
			}
		}
	}
}

// P14.1: many parts of all kinds, one behind the other.
func TestSplitRandom(t *testing.T) {
	next := numbers(14)
	kinds := []string{"a", "b", "cd", "0123456789abcdefg", "...", ".", "", "..", "..", "e", "f", "\xff"}
	for range 20000 {
		s := ""
		for range next(60) {
			s += "/" + kinds[next(len(kinds))]
			if next(200) == 0 {
				s += "\x00"
			}
		}
		splits(t, s)
	}
}

// P14.2: answers written out.
func TestJoinWritten(t *testing.T) {
	for _, c := range []struct {
		names []string
		want  string
		e     api.Errno
	}{
		{nil, "/", api.OK}, {[]string{}, "/", api.OK}, {[]string{"a"}, "/a", api.OK}, {[]string{"a", "c"}, "/a/c", api.OK}, {[]string{"c", "a"}, "/c/a", api.OK}, {[]string{"...", " ", "\xff"}, "/.../ /\xff", api.OK},
		{[]string{""}, "", api.ErrName}, {[]string{"."}, "", api.ErrName}, {[]string{".."}, "", api.ErrName}, {[]string{"a", ".."}, "", api.ErrName}, {[]string{"a", "", "b"}, "", api.ErrName}, {[]string{"a/b"}, "", api.ErrName}, {[]string{"/"}, "", api.ErrName}, {[]string{"/a"}, "", api.ErrName}, {[]string{"a\x00"}, "", api.ErrName},
		{[]string{"0123456789abcdefg"}, "/0123456789abcdefg", api.OK}, {[]string{"0123456789abcdefgh"}, "", api.ErrName},
		{make([]string, 16), "", api.ErrName}, {make([]string, 17), "", api.ErrFull},
	} {
		if s, e := Join(c.names...); s != c.want || e != c.e {
			t.Errorf("Join(%q): %q %d, not %q %d", c.names, s, e, c.want, c.e)
		}
	}
}

// P14.2: how many names there are, which comes ahead of what they are, and each text in each place.
func TestJoin(t *testing.T) {
	for n := range 20 {
		names, e := partsOf(deep(n)), api.OK
		if n == 0 {
			names = nil
		}
		if n > 16 {
			e = api.ErrFull
		}
		if s, f := Join(names...); f != e || e == api.OK && n > 0 && s != deep(n) {
			t.Errorf("Join of %d names: %q %d", n, s, f)
		}
		joins(t, names)
		for at := range names {
			for _, s := range append(texts(), "/", "a/b", "/a", "a/", "//", "./a", "0123456789abcdef/") {
				other := slices.Clone(names)
				other[at] = s
				joins(t, other)
			}
		}
	}
	joins(t, make([]string, 100000))
	joins(t, slices.Repeat([]string{"a"}, 100000))
	joins(t, slices.Repeat([]string{"0123456789abcdefg"}, 16))
}

// P14.2: a path of any names is split into these.
func TestJoinSplit(t *testing.T) {
	next := numbers(2)
	for range 20000 {
		var names []string
		for range next(17) {
			s := make([]byte, 1+next(17))
			for i := range s {
				s[i] = byte(1 + next(255))
			}
			if isName(string(s)) {
				names = append(names, string(s))
			}
		}
		s, e := Join(names...)
		if e != api.OK {
			t.Fatalf("Join(%q): %d", names, e)
		}
		if got, e := Split(s); e != api.OK || !slices.Equal(got, names) {
			t.Fatalf("Split(%q): %q %d, not %q", s, got, e, names)
		}
	}
}

// P14.2: answers written out.
func TestUnderWritten(t *testing.T) {
	for _, c := range []struct {
		s, within string
		want      bool
		e         api.Errno
	}{
		{"/", "/", true, api.OK}, {"/a", "/", true, api.OK}, {"/", "/a", false, api.OK}, {"/a", "/a", true, api.OK}, {"/a/b", "/a", true, api.OK}, {"/a", "/a/b", false, api.OK}, {"/b", "/a", false, api.OK},
		{"/ab", "/a", false, api.OK}, {"/a", "/ab", false, api.OK}, {"/ab/c", "/a", false, api.OK}, {"/b/a", "/a", false, api.OK}, {"/a/b/c", "/a/b", true, api.OK}, {"/a/c/b", "/a/b", false, api.OK},
		{"//a/./b/../c/", "/a/c", true, api.OK}, {"/a/..", "/a", false, api.OK}, {"/a/../b", "/a", false, api.OK}, {"/b/../a/c", "/x/../a//", true, api.OK}, {"/a", "/a/b/..", true, api.OK}, {"/a", "/..", true, api.OK},
		{"", "/", false, api.ErrForm}, {"/", "", false, api.ErrForm}, {"a", "/\x00", false, api.ErrForm}, {"/\x00", "a", false, api.ErrName}, {"/a", "/\x00", false, api.ErrName}, {"/a", "a", false, api.ErrForm},
		{deep(17), "a", false, api.ErrFull}, {"a", deep(17), false, api.ErrForm}, {deep(16), deep(17), false, api.ErrFull}, {deep(16), deep(16), true, api.OK}, {deep(16), deep(15), true, api.OK}, {deep(15), deep(16), false, api.OK},
	} {
		if is, e := Under(c.s, c.within); is != c.want || e != c.e {
			t.Errorf("Under(%q, %q): %v %d, not %v %d", c.s, c.within, is, e, c.want, c.e)
		}
	}
}

// P14.2: each two of many paths, wrong ones too.
func TestUnder(t *testing.T) {
	var all []string
	each([]string{"/a", "/b", "/..", "/", "/ab", "."}, 3, func(s string) { all = append(all, s) })
	slices.Sort(all)
	all = append(slices.Compact(all), "a", "/\x00", "/a/\x00", "/0123456789abcdefg", "/0123456789abcdefgh", deep(15), deep(16), deep(17), long("/a", 1024), long("/a", 1025), "/n0/n1", "/n0/n2")
	for _, s := range all {
		for _, within := range all {
			unders(t, s, within)
		}
	}
	for n := range 18 {
		for m := range 18 {
			unders(t, "/"+deep(n), "/"+deep(m))
			unders(t, "/"+deep(n), "/"+deep(m)+"/x")
		}
	}
}

// sameMemory: do two texts share bytes?
func sameMemory(a, b string) bool {
	if a == "" || b == "" {
		return false
	}
	p, q := uintptr(unsafe.Pointer(unsafe.StringData(a))), uintptr(unsafe.Pointer(unsafe.StringData(b)))
	return p < q+uintptr(len(b)) && q < p+uintptr(len(a))
}

// P14.1, R4, R5: what is answered is new memory, spare room included, and the same each time.
func TestSplitMemory(t *testing.T) {
	for _, s := range []string{"/", "/a", "/a/b/c", "/a/b/../..", "/a/b/c/d/..", deep(16), deep(16) + "/..", "/0123456789abcdefg"} {
		path := strings.Clone(s)
		first, _ := Split(path)
		second, _ := Split(path)
		for _, name := range first {
			if sameMemory(name, path) {
				t.Errorf("Split(%q): %q is a piece of the path's memory", s, name)
			}
		}
		clear(first[:cap(first)])
		third, _ := Split(path)
		want, _ := splitOf(s)
		if !slices.Equal(second, want) || !slices.Equal(third, want) || path != s {
			t.Errorf("Split(%q): answers share memory: %q, %q", s, second, third)
		}
	}
}

// P14.2, R4: what is handed in is left as it is, spare room too.
func TestJoinMemory(t *testing.T) {
	for n := range 17 {
		room := append(strings.Split(deep(n), "/")[1:], "spare", "")
		kept := slices.Clone(room)
		s, e := Join(room[:n]...)
		if e != api.OK || n > 0 && s != deep(n) {
			t.Errorf("Join of %d names: %q %d", n, s, e)
		}
		if !slices.Equal(room, kept) {
			t.Errorf("%q became %q", kept, room)
		}
		for _, name := range room {
			if sameMemory(name, s) {
				t.Errorf("Join(%q): %q shares memory with %q", room[:n], s, name)
			}
		}
	}
}
