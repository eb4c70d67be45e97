package volume

import (
	"bytes"
	"fmt"
	"maps"
	"math"
	"slices"
	"strings"
	"testing"

	"drydock/api"
	"drydock/check"
	"drydock/disk"
	"drydock/entry"
	"drydock/image"
	"drydock/journal"
	"drydock/path"
)

// numbers answers numbers below n, the same ones at each run.
func numbers(seed uint32) func(n int) int {
	return func(n int) int {
		seed = seed*1664525 + 1013904223
		return int(seed>>8) % n
	}
}

// ends are numbers at the ends of all that an int can be.
func ends() []int {
	return []int{math.MinInt, math.MinInt32, -65536, -64, -1, math.MaxInt32, math.MaxInt - 256, math.MaxInt - 63, math.MaxInt}
}

// filled is n bytes, none of them 0.
func filled(n, seed int) []byte {
	b := make([]byte, n)
	for i := range b {
		b[i] = byte(1 + (i*7+seed*31)%255)
	}
	return b
}

// call is a call of a Volume.
type call struct {
	verb, path, other string
	n, m              int
	data              []byte
}

// answer is what a call answers.
type answer struct {
	e     api.Errno
	data  []byte
	names []string
	stat  api.Stat
}

func (c call) on(v *Volume) (a answer) {
	switch c.verb {
	case "create":
		a.e = v.Create(c.path)
	case "mkdir":
		a.e = v.Mkdir(c.path)
	case "link":
		a.e = v.Link(c.path, c.other)
	case "unlink":
		a.e = v.Unlink(c.path)
	case "rmdir":
		a.e = v.Rmdir(c.path)
	case "rename":
		a.e = v.Rename(c.path, c.other)
	case "read":
		a.data, a.e = v.Read(c.path, c.n, c.m)
	case "write":
		a.e = v.Write(c.path, c.n, c.data)
	case "truncate":
		a.e = v.Truncate(c.path, c.n)
	case "stat":
		a.stat, a.e = v.Stat(c.path)
	case "list":
		a.names, a.e = v.List(c.path)
	default:
		panic(c.verb)
	}
	return a
}

// item is a node, as the document's words have it: a file's bytes, or a directory's names.
type item struct {
	kind, format, links int
	data                []byte
	names               map[string]int
}

// model is what is in a volume; who is nil is Free.
type model struct {
	format int
	items  [32]*item
}

func emptyModel(format int) *model {
	m := &model{format: format}
	m.items[0] = &item{kind: 2, format: format, links: 1, names: map[string]int{}}
	return m
}

func (m *model) clone() *model {
	c := *m
	for n, x := range m.items {
		if x != nil {
			y := *x
			y.data, y.names = bytes.Clone(x.data), maps.Clone(x.names)
			c.items[n] = &y
		}
	}
	return &c
}

// walk resolves names.
func (m *model) walk(names []string) (int, api.Errno) {
	at := 0
	for _, name := range names {
		if m.items[at].kind != 2 {
			return 0, api.ErrKind
		}
		n, there := m.items[at].names[name]
		if !there {
			return 0, api.ErrNone
		}
		at = n
	}
	return at, api.OK
}

// place resolves names but the last.
func (m *model) place(names []string) (*item, string, api.Errno) {
	n, e := m.walk(names[:len(names)-1])
	if e == api.OK && m.items[n].kind != 2 {
		e = api.ErrKind
	}
	if e != api.OK {
		return nil, "", e
	}
	return m.items[n], names[len(names)-1], api.OK
}

// file resolves a file's names.
func (m *model) file(names []string) (int, *item, api.Errno) {
	n, e := m.walk(names)
	if e != api.OK {
		return 0, nil, e
	}
	if m.items[n].kind != 1 {
		return 0, nil, api.ErrKind
	}
	return n, m.items[n], api.OK
}

// do answers what a call has to answer, but for ErrSpace and ErrPower, and does it.
func (m *model) do(c call) answer {
	names, e := path.Split(c.path)
	var others []string
	if e == api.OK && (c.verb == "link" || c.verb == "rename") {
		others, e = path.Split(c.other)
	}
	if e != api.OK {
		return answer{e: e}
	}
	switch c.verb {
	case "create":
		return answer{e: m.create(names, 1)}
	case "mkdir":
		return answer{e: m.create(names, 2)}
	case "link":
		return answer{e: m.link(names, others)}
	case "unlink":
		return answer{e: m.remove(names, 1)}
	case "rmdir":
		return answer{e: m.remove(names, 2)}
	case "rename":
		return answer{e: m.rename(names, others)}
	case "list":
		n, e := m.walk(names)
		if e == api.OK && m.items[n].kind != 2 {
			e = api.ErrKind
		}
		if e != api.OK {
			return answer{e: e}
		}
		return answer{names: slices.Sorted(maps.Keys(m.items[n].names))}
	case "stat":
		n, e := m.walk(names)
		if e != api.OK {
			return answer{e: e}
		}
		x := m.items[n]
		return answer{stat: api.Stat{Node: n, Kind: x.kind, Format: x.format, Links: x.links, Size: len(x.data)}}
	}
	_, x, e := m.file(names)
	if e != api.OK {
		return answer{e: e}
	}
	switch c.verb {
	case "read":
		if c.n < 0 || c.m < 0 {
			return answer{e: api.ErrArg}
		}
		from := min(c.n, len(x.data))
		return answer{data: x.data[from : from+min(c.m, len(x.data)-from)]}
	case "write":
		return answer{e: x.write(c.n, c.data)}
	}
	return answer{e: x.truncate(c.n)}
}

func (x *item) write(at int, b []byte) api.Errno {
	switch {
	case at < 0:
		return api.ErrArg
	case len(b) > 256 || at > 6144 || at+len(b) > 6144:
		return api.ErrFull
	case len(b) == 0:
		return api.OK
	case at+len(b) > len(x.data):
		x.data = append(x.data, make([]byte, at+len(b)-len(x.data))...)
	}
	copy(x.data[at:], b)
	return api.OK
}

func (x *item) truncate(size int) api.Errno {
	if size < 0 || size > 6144 {
		return api.ErrArg
	}
	b := make([]byte, size)
	copy(b, x.data)
	x.data = b
	return api.OK
}

// full: has a directory three names in each of the blocks that it may have?
func (x *item) full() bool { return len(x.names) == 288 }

func (m *model) create(names []string, kind int) api.Errno {
	if len(names) == 0 {
		return api.ErrThere
	}
	dir, name, e := m.place(names)
	if e != api.OK {
		return e
	}
	if _, there := dir.names[name]; there {
		return api.ErrThere
	}
	n := slices.Index(m.items[:], nil)
	if n < 0 || dir.full() {
		return api.ErrFull
	}
	format := m.format
	if format == 3 {
		format = 2
	}
	m.items[n] = &item{kind: kind, format: format, links: 1}
	if kind == 2 {
		m.items[n].names = map[string]int{}
	}
	dir.names[name] = n
	return api.OK
}

func (m *model) link(names, others []string) api.Errno {
	n, x, e := m.file(names)
	if e != api.OK {
		return e
	}
	if len(others) == 0 {
		return api.ErrThere
	}
	dir, name, e := m.place(others)
	if e != api.OK {
		return e
	}
	if _, there := dir.names[name]; there {
		return api.ErrThere
	}
	if x.links == 1000 {
		return api.ErrLinks
	}
	if dir.full() {
		return api.ErrFull
	}
	x.links++
	dir.names[name] = n
	return api.OK
}

func (m *model) remove(names []string, kind int) api.Errno {
	if len(names) == 0 {
		return api.ErrArg
	}
	dir, name, e := m.place(names)
	if e != api.OK {
		return e
	}
	n, there := dir.names[name]
	if !there {
		return api.ErrNone
	}
	x := m.items[n]
	if x.kind != kind {
		return api.ErrKind
	}
	if len(x.names) > 0 {
		return api.ErrBusy
	}
	delete(dir.names, name)
	x.links--
	if x.links == 0 {
		m.items[n] = nil
	}
	return api.OK
}

func (m *model) rename(names, others []string) api.Errno {
	if len(names) == 0 || len(others) == 0 {
		return api.ErrArg
	}
	from, name, e := m.place(names)
	if e != api.OK {
		return e
	}
	n, there := from.names[name]
	if !there {
		return api.ErrNone
	}
	if slices.Equal(names, others) {
		return api.OK
	}
	if m.items[n].kind == 2 && len(others) > len(names) && slices.Equal(others[:len(names)], names) {
		return api.ErrArg
	}
	to, next, e := m.place(others)
	if e != api.OK {
		return e
	}
	if _, there := to.names[next]; there {
		return api.ErrThere
	}
	if to.full() {
		return api.ErrFull
	}
	delete(from.names, name)
	to.names[next] = n
	return api.OK
}

// differs says in what a volume holds something else than the model; nothing, if in nothing.
func (m *model) differs(v *Volume) string {
	if _, e := check.Check(v.Blocks()); e != api.OK {
		return "not sound"
	}
	lying, _ := image.Open(v.Blocks())
	for n, x := range m.items {
		y, pointers, _, _ := lying.Node(n)
		if x == nil && y.Kind != 0 || x != nil && y.Kind != x.kind {
			return fmt.Sprintf("node %d: %v", n, y)
		}
		if y.Kind == 2 && !maps.Equal(x.names, namesIn(lying, pointers)) {
			return fmt.Sprintf("names in node %d: %v, not %v", n, namesIn(lying, pointers), x.names)
		}
	}
	return m.differsAt(v, "/", 0, map[int]bool{})
}

func namesIn(m *image.Image, blocks []int) map[string]int {
	names := map[string]int{}
	for _, n := range blocks {
		b, _ := m.Data(n)
		list, _ := entry.Decode(b)
		for _, x := range list {
			names[x.Name] = x.Node
		}
	}
	return names
}

// differsAt goes to each node by one of its names.
func (m *model) differsAt(v *Volume, at string, n int, seen map[int]bool) string {
	if seen[n] {
		return ""
	}
	seen[n] = true
	for _, c := range []call{{verb: "stat", path: at}, {verb: "list", path: at}, {verb: "read", path: at, m: 7000}} {
		got, want := c.on(v), m.do(c)
		if got.unlike(want) {
			return fmt.Sprintf("%v: %v, not %v", c, got, want)
		}
	}
	for name, k := range m.items[n].names {
		if s := m.differsAt(v, at+"/"+name, k, seen); s != "" {
			return s
		}
	}
	return ""
}

// unlike leaves out what a model does not tell: how many blocks there are, and a directory's Size.
func (a answer) unlike(want answer) bool {
	for _, s := range []*api.Stat{&a.stat, &want.stat} {
		s.Blocks = 0
		if s.Kind == 2 {
			s.Size = 0
		}
	}
	return a.e != want.e || a.stat != want.stat || !bytes.Equal(a.data, want.data) || !slices.Equal(a.names, want.names)
}

// world is a volume, its disk, and what it is to hold.
type world struct {
	d *disk.Disk
	v *Volume
	m *model
}

// begin is an empty volume on a disk that has some blocks more.
func begin(t *testing.T, size, format int) *world {
	t.Helper()
	d := newDisk(t, min(size+5, 480))
	if e := Make(d, size, format); e != api.OK {
		t.Fatalf("Make(%d, %d): %d", size, format, e)
	}
	return &world{d, mounted(t, d), emptyModel(format)}
}

func newDisk(t *testing.T, size int) *disk.Disk {
	t.Helper()
	d, e := disk.New(size)
	if e != api.OK {
		t.Fatalf("New(%d): %d", size, e)
	}
	return d
}

func mounted(t *testing.T, d *disk.Disk) *Volume {
	t.Helper()
	v, e := Mount(d)
	if v == nil || e != api.OK {
		t.Fatalf("Mount: %v %d", v, e)
	}
	return v
}

// all are a disk's blocks.
func all(t *testing.T, d *disk.Disk) [][]byte {
	t.Helper()
	var list [][]byte
	for n := range d.Blocks() {
		b, e := d.Get(n)
		if e != api.OK {
			t.Fatalf("Get(%d): %d", n, e)
		}
		list = append(list, b)
	}
	return list
}

// lay puts blocks on a disk, from its first one on, and they last.
func lay(t *testing.T, d *disk.Disk, blocks [][]byte) {
	t.Helper()
	for n, b := range blocks {
		if e := d.Put(api.Write{At: n, Data: b}); e != api.OK {
			t.Fatalf("Put: %d", e)
		}
	}
	if e := d.Barrier(); e != api.OK {
		t.Fatalf("Barrier: %d", e)
	}
}

// onDisk is a disk with these blocks.
func onDisk(t *testing.T, blocks [][]byte) *disk.Disk {
	t.Helper()
	d := newDisk(t, len(blocks))
	lay(t, d, blocks)
	return d
}

// again is the same volume on a disk of its own, mounted anew.
func (w *world) again(t *testing.T) *world {
	t.Helper()
	d := onDisk(t, all(t, w.d))
	return &world{d, mounted(t, d), w.m.clone()}
}

// told leaves out what is not told of the Head and the log.
func told(blocks [][]byte) [][]byte {
	return slices.Concat(blocks[:1], blocks[2:19], blocks[59:])
}

func same(a, b [][]byte) bool { return slices.EqualFunc(a, b, bytes.Equal) }

// lies holds what a volume tells of itself against its disk.
func (w *world) lies(t *testing.T, what any) {
	t.Helper()
	blocks := w.v.Blocks()
	format, e := check.Check(blocks)
	if e != api.OK || format != w.m.format {
		t.Fatalf("%v: Check: %d %d", what, format, e)
	}
	looked, e := journal.Look(w.d)
	if e != api.OK || !same(told(looked[:len(blocks)]), told(blocks)) {
		t.Fatalf("%v: Blocks are not those that lie there (%d)", what, e)
	}
	m, _ := image.Open(blocks)
	if w.v.Super() != m.Super() || w.v.Free() != m.Free() {
		t.Fatalf("%v: %v, %d free; not %v, %d", what, w.v.Super(), w.v.Free(), m.Super(), m.Free())
	}
}

// do makes a call, and holds its answer, and all that it has made others, against the words.
func (w *world) do(t *testing.T, c call) answer {
	t.Helper()
	before, free := w.v.Blocks(), w.v.Free()
	data := bytes.Clone(c.data)
	got := c.on(w.v)
	if !bytes.Equal(data, c.data) {
		t.Fatalf("%v: data is changed", c)
	}
	next := w.m.clone()
	want := next.do(c)
	after := w.v.Blocks()
	switch {
	case got.e == api.ErrSpace && want.e == api.OK && free < 16 && !got.unlike(answer{e: api.ErrSpace}):
	case got.unlike(want):
		t.Fatalf("%v: %v, not %v (%d free)", c, got, want, free)
	default:
		w.m = next
	}
	if got.e != api.OK && !same(before, after) {
		t.Fatalf("%v: %d, but blocks are others", c, got.e)
	}
	others := 0
	for n := range after {
		if !bytes.Equal(before[n], after[n]) {
			others++
		}
	}
	if others > 20 {
		t.Fatalf("%v: %d blocks are others", c, others)
	}
	w.lies(t, c)
	return got
}

// does makes calls of which each is OK.
func (w *world) does(t *testing.T, list ...call) {
	t.Helper()
	for _, c := range list {
		if a := w.do(t, c); a.e != api.OK {
			t.Fatalf("%v: %d", c, a.e)
		}
	}
}

// fails makes a call that has to answer an error.
func (w *world) fails(t *testing.T, e api.Errno, list ...call) {
	t.Helper()
	for _, c := range list {
		if a := w.do(t, c); a.e != e {
			t.Fatalf("%v: %d, not %d", c, a.e, e)
		}
	}
}

func (w *world) holds(t *testing.T) {
	t.Helper()
	if s := w.m.differs(w.v); s != "" {
		t.Fatal(s)
	}
}

// paths are those of all files, or directories, the same ones in the same order at each run.
func (m *model) paths(kind int) []string {
	var list []string
	var walk func(at string, n int)
	walk = func(at string, n int) {
		if m.items[n].kind == kind {
			list = append(list, at)
		}
		for _, name := range slices.Sorted(maps.Keys(m.items[n].names)) {
			walk(strings.TrimSuffix(at, "/")+"/"+name, m.items[n].names[name])
		}
	}
	walk("/", 0)
	return list
}

func anyName(r func(n int) int) string {
	return []string{"a", "b", "c", "d", "e", "ff", "\xff\x01 %", strings.Repeat("n", 17)}[r(8)]
}

// anyPath is a path that is there, if there is one of this kind, or a name where one may be; now and then
// any path, or none.
func (m *model) anyPath(r func(n int) int, kind int, there bool) string {
	switch r(40) {
	case 0:
		return []string{"", "a", "/a\x00", "/" + strings.Repeat("x", 18), strings.Repeat("/a", 17), "/..", "//", "/./", "/a//b/", "/a/../b", strings.Repeat("/", 1025)}[r(11)]
	case 1, 2, 3:
		return "/" + anyName(r) + strings.Repeat("/"+anyName(r), r(3))
	case 4:
		kind = 3 - kind
	}
	if list := m.paths(kind); there && len(list) > 0 {
		return list[r(len(list))]
	}
	dirs := m.paths(2)
	return dirs[r(len(dirs))] + "/" + anyName(r)
}

// anyNumber is a number of a byte, most at the ends of blocks.
func anyNumber(r func(n int) int) int {
	switch r(12) {
	case 0:
		return ends()[r(9)]
	case 1:
		return 6144 - r(300) + r(50)
	case 2, 3, 4:
		return r(6200)
	}
	return max(-1, 64*r(12)+r(5)-2)
}

// anyCall is more often one that makes something than one that takes it away.
func (m *model) anyCall(r func(n int) int) call {
	verbs := []string{"create", "create", "mkdir", "link", "link", "unlink", "rmdir", "rename", "rename", "read", "read", "write", "write", "write", "write", "write", "write", "truncate", "stat", "list"}
	c := call{verb: verbs[r(len(verbs))], n: anyNumber(r)}
	switch c.verb {
	case "create", "mkdir":
		c.path = m.anyPath(r, 1, false)
	case "link":
		c.path, c.other = m.anyPath(r, 1, true), m.anyPath(r, 1, false)
	case "rename":
		c.path, c.other = m.anyPath(r, 1+r(2), true), m.anyPath(r, 1, false)
	case "stat":
		c.path = m.anyPath(r, 1+r(2), true)
	case "rmdir", "list":
		c.path = m.anyPath(r, 2, true)
	default:
		c.path = m.anyPath(r, 1, true)
	}
	if c.verb == "read" {
		c.m = anyNumber(r)
	}
	if c.verb == "write" {
		c.data = filled(r(1+r(300)), r(1000))
	}
	return c
}
