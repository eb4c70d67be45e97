package move

import (
	"bytes"
	"fmt"
	"math"
	"slices"
	"strings"
	"testing"

	"drydock/api"
	"drydock/check"
	"drydock/disk"
	"drydock/image"
	"drydock/journal"
	"drydock/volume"
)

// numbers answers numbers below n, the same ones at each run.
func numbers(seed int) func(n int) int {
	x := uint32(seed)
	return func(n int) int {
		x = x*1664525 + 1013904223
		return int(x>>8) % n
	}
}

// ends are numbers at the ends of all that an int can be.
func ends() []int {
	return []int{math.MinInt, math.MinInt + 1, math.MinInt32, -1, math.MaxInt32, 1 << 32, math.MaxInt - 15, math.MaxInt}
}

// filled is n bytes, none of them 0.
func filled(n, seed int) []byte {
	b := make([]byte, n)
	for i := range b {
		b[i] = byte(1 + (i*7+seed*31)%255)
	}
	return b
}

// call is a call of a Volume.
type call struct {
	verb, path, other string
	n, m              int
	data              []byte
}

// answer is what a call answers.
type answer struct {
	e     api.Errno
	data  []byte
	names []string
	stat  api.Stat
}

func (c call) on(v *volume.Volume) (a answer) {
	switch c.verb {
	case "create":
		a.e = v.Create(c.path)
	case "mkdir":
		a.e = v.Mkdir(c.path)
	case "link":
		a.e = v.Link(c.path, c.other)
	case "unlink":
		a.e = v.Unlink(c.path)
	case "rmdir":
		a.e = v.Rmdir(c.path)
	case "rename":
		a.e = v.Rename(c.path, c.other)
	case "read":
		a.data, a.e = v.Read(c.path, c.n, c.m)
	case "write":
		a.e = v.Write(c.path, c.n, c.data)
	case "truncate":
		a.e = v.Truncate(c.path, c.n)
	case "stat":
		a.stat, a.e = v.Stat(c.path)
	case "list":
		a.names, a.e = v.List(c.path)
	default:
		panic(c.verb)
	}
	a.stat.Format, a.stat.Blocks = 0, 0
	return a
}

// unlike: are these answers not the same, but for what jobs may make others?
func (a answer) unlike(b answer) bool {
	return a.e != b.e || a.stat != b.stat || !bytes.Equal(a.data, b.data) || !slices.Equal(a.names, b.names)
}

// picture is all that a volume's calls answer, but for what jobs may make others.
func picture(v *volume.Volume) string {
	var b strings.Builder
	var walk func(at string)
	walk = func(at string) {
		s := call{verb: "stat", path: at}.on(v)
		l := call{verb: "list", path: at}.on(v)
		f := call{verb: "read", path: at, m: 7000}.on(v)
		fmt.Fprintf(&b, "%q %v %v %v\n", at, s, l, f)
		for _, name := range l.names {
			walk(strings.TrimSuffix(at, "/") + "/" + name)
		}
	}
	walk("/")
	return b.String()
}

// seen is what there is to see of a volume's node.
type seen struct {
	api.Node
	pointers, own []int
}

// shot is what there is to see of a volume.
type shot struct {
	super      api.Super
	blocks     [][]byte
	nodes      []seen
	up         []int
	left, free int
	picture    string
}

func shoot(t *testing.T, v *volume.Volume) shot {
	t.Helper()
	s := shot{super: v.Super(), blocks: v.Blocks(), left: Left(v), free: v.Free(), picture: picture(v)}
	m, e := image.Open(s.blocks)
	if e != api.OK {
		t.Fatalf("Open: %d", e)
	}
	for n := range 32 {
		x, pointers, own, e := m.Node(n)
		if e != api.OK {
			t.Fatalf("Node(%d): %d", n, e)
		}
		s.nodes = append(s.nodes, seen{x, pointers, own})
	}
	s.up, e = check.Used(s.blocks)
	if e != api.OK {
		t.Fatalf("Used: %d", e)
	}
	return s
}

// behind are the blocks from one on whose flags are up.
func (s shot) behind(from int) []int {
	return slices.DeleteFunc(slices.Clone(s.up), func(n int) bool { return n < from })
}

// gap is the longest free run's length.
func (s shot) gap() int {
	longest, length := 0, 0
	for n := 59; n < s.super.Size; n++ {
		length++
		if slices.Contains(s.up, n) {
			length = 0
		}
		longest = max(longest, length)
	}
	return longest
}

func notZero(p int) bool { return p != 0 }

// count answers how many of some numbers are such ones.
func count(list []int, is func(n int) bool) int {
	k := 0
	for _, n := range list {
		if is(n) {
			k++
		}
	}
	return k
}

// extents answers how many extents pointers are.
func extents(pointers []int) int {
	k := 0
	for i, p := range pointers {
		if p != 0 && (i == 0 || pointers[i-1] == 0 || pointers[i-1]+1 != p) {
			k++
		}
	}
	return k
}

// whole answers how many extents pointers would be in one run.
func whole(pointers []int) int {
	k := 0
	for i, p := range pointers {
		if p != 0 && (i == 0 || pointers[i-1] == 0) {
			k++
		}
	}
	return k
}

// world is a volume on a disk, and a twin, of which the same calls are made that were OK, but never a job's.
type world struct {
	d       *disk.Disk
	v, twin *volume.Volume
}

func newDisk(t *testing.T, size int) *disk.Disk {
	t.Helper()
	d, e := disk.New(size)
	if e != api.OK {
		t.Fatalf("New(%d): %d", size, e)
	}
	return d
}

func mounted(t *testing.T, d *disk.Disk) *volume.Volume {
	t.Helper()
	v, e := volume.Mount(d)
	if v == nil || e != api.OK {
		t.Fatalf("Mount: %v %d", v, e)
	}
	return v
}

// begin is an empty volume on a disk of any size that is no less; the blocks behind it are not of bytes 0.
func begin(t *testing.T, room, size, format int) *world {
	t.Helper()
	w := &world{d: newDisk(t, room)}
	for n := size; n < room; n++ {
		put(t, w.d, n, filled(64, n))
	}
	if e := volume.Make(w.d, size, format); e != api.OK {
		t.Fatalf("Make: %d", e)
	}
	w.v = mounted(t, w.d)
	d := newDisk(t, 480)
	if e := volume.Make(d, 480, 2); e != api.OK {
		t.Fatalf("Make: %d", e)
	}
	w.twin = mounted(t, d)
	return w
}

// all are a disk's blocks.
func all(t *testing.T, d *disk.Disk) [][]byte {
	t.Helper()
	var list [][]byte
	for n := range d.Blocks() {
		b, e := d.Get(n)
		if e != api.OK {
			t.Fatalf("Get(%d): %d", n, e)
		}
		list = append(list, b)
	}
	return list
}

func put(t *testing.T, d *disk.Disk, n int, b []byte) {
	t.Helper()
	if e := d.Put(api.Write{At: n, Data: b}); e != api.OK {
		t.Fatalf("Put: %d", e)
	}
}

// onDisk is a disk with these blocks, which last.
func onDisk(t *testing.T, blocks [][]byte) *disk.Disk {
	t.Helper()
	d := newDisk(t, len(blocks))
	for n, b := range blocks {
		put(t, d, n, b)
	}
	if e := d.Barrier(); e != api.OK {
		t.Fatalf("Barrier: %d", e)
	}
	return d
}

// again is the same volume on a disk of its own, mounted anew; the twin is the same one.
func (w *world) again(t *testing.T) *world {
	t.Helper()
	d := onDisk(t, all(t, w.d))
	return &world{d, mounted(t, d), w.twin}
}

// with is a world of blocks that are changed by hand.
func (w *world) with(t *testing.T, change func(m *image.Image)) *world {
	t.Helper()
	m, e := image.Open(w.v.Blocks())
	if e != api.OK {
		t.Fatalf("Open: %d", e)
	}
	change(m)
	d := onDisk(t, append(m.Blocks(), all(t, w.d)[w.v.Super().Size:]...))
	return &world{d, mounted(t, d), w.twin}
}

// told leaves out what is not told of the Head and the log.
func told(blocks [][]byte) [][]byte {
	return slices.Concat(blocks[:1], blocks[2:19], blocks[59:])
}

func same(a, b [][]byte) bool { return slices.EqualFunc(a, b, bytes.Equal) }

// lies holds that a volume is sound, and that its blocks are those of its disk.
func (w *world) lies(t *testing.T, what any) {
	t.Helper()
	blocks := w.v.Blocks()
	format, e := check.Check(blocks)
	if e != api.OK || format != w.v.Super().Format || len(blocks) != w.v.Super().Size {
		t.Fatalf("%v: Check: %d %d, %d blocks, %v", what, format, e, len(blocks), w.v.Super())
	}
	looked, e := journal.Look(w.d)
	if e != api.OK || !same(told(looked[:len(blocks)]), told(blocks)) {
		t.Fatalf("%v: Blocks are not those that lie there (%d)", what, e)
	}
}

// holds that a volume has in it what its twin has.
func (w *world) holds(t *testing.T) {
	t.Helper()
	if a, b := picture(w.v), picture(w.twin); a != b {
		t.Fatalf("there is\n%s\nand not\n%s", a, b)
	}
}

// do makes a call, of the twin, too, and holds the answers against each other.
func (w *world) do(t *testing.T, c call) answer {
	t.Helper()
	before, free, super, left := w.v.Blocks(), w.v.Free(), w.v.Super(), Left(w.v)
	a := c.on(w.v)
	if a.e == api.ErrSpace && free < 16 {
		if !same(before, w.v.Blocks()) {
			t.Fatalf("%v: ErrSpace, but blocks are others", c)
		}
		return a
	}
	if b := c.on(w.twin); a.unlike(b) {
		t.Fatalf("%v: %v, not %v (%d free, %v)", c, a, b, free, super)
	}
	if w.v.Super() != super || super.Job == 2 && Left(w.v) > left {
		t.Fatalf("%v: %v, %v, %d left", c, super, w.v.Super(), Left(w.v))
	}
	if super.Job == 2 {
		was, _ := check.Used(before)
		is, _ := check.Used(w.v.Blocks())
		for _, n := range is {
			if n >= super.Goal && !slices.Contains(was, n) {
				t.Fatalf("%v takes block %d, Goal is %d", c, n, super.Goal)
			}
		}
	}
	w.lies(t, c)
	return a
}

// does makes calls of which each is OK.
func (w *world) does(t *testing.T, list ...call) {
	t.Helper()
	for _, c := range list {
		if a := w.do(t, c); a.e != api.OK {
			t.Fatalf("%v: %d", c, a.e)
		}
	}
}

// fills writes a file block by block, or some with holes between; other files' blocks come between its own,
// when several are filled.
func (w *world) fills(t *testing.T, from, to, by int, paths ...string) {
	t.Helper()
	for i := from; i < to; i += by {
		for k, at := range paths {
			w.does(t, call{verb: "write", path: at, n: 64 * i, data: filled(64, i+k)})
		}
	}
}

// creates makes empty files.
func (w *world) creates(t *testing.T, paths ...string) {
	t.Helper()
	for _, at := range paths {
		w.does(t, call{verb: "create", path: at})
	}
}

// starts begins a job, and holds that nothing else is another.
func (w *world) starts(t *testing.T, job, goal int) {
	t.Helper()
	before := shoot(t, w.v)
	if e := Start(w.v, job, goal); e != api.OK {
		t.Fatalf("Start(%d, %d): %d", job, goal, e)
	}
	after := shoot(t, w.v)
	want := api.Super{Size: before.super.Size, Format: before.super.Format, Job: job, Goal: goal}
	if job == 1 {
		want.Format = 3
	}
	if after.super != want || !same(before.blocks[1:], after.blocks[1:]) || before.picture != after.picture {
		t.Fatalf("Start(%d, %d): %v", job, goal, after.super)
	}
	w.lies(t, "Start")
}

// step does a step, and holds it against the words.
func (w *world) step(t *testing.T) (bool, api.Errno) {
	t.Helper()
	before := shoot(t, w.v)
	last, e := Step(w.v)
	after := shoot(t, w.v)
	if e != api.OK {
		if last || !same(before.blocks, after.blocks) {
			t.Fatalf("Step: %v %d, or blocks are others", last, e)
		}
		if e == api.ErrNone && before.super.Job == 0 || e == api.ErrSpace && before.free < 16 && before.super.Job != 3 {
			return last, e
		}
		t.Fatalf("Step: %d, %v, %d free", e, before.super, before.free)
	}
	if after.left >= before.left || before.picture != after.picture || last != (after.super.Job == 0) || last != (after.left == 0) {
		t.Fatalf("Step: %v, %d left of %d, or something else is in it", last, after.left, before.left)
	}
	w.lies(t, "Step")
	others := 0
	for n := range min(len(before.blocks), len(after.blocks)) {
		if !bytes.Equal(before.blocks[n], after.blocks[n]) {
			others++
		}
	}
	if others > 20 || others == 0 {
		t.Fatalf("Step: %d blocks are others", others)
	}
	switch before.super.Job {
	case 1:
		migrated(t, before, after, last)
	case 2:
		shrunk(t, before, after, last)
	case 3:
		gathered(t, before, after, last)
	default:
		t.Fatalf("Step: %v", before.super)
	}
	return last, e
}

// finish does all steps that are left, and answers how many these were.
func (w *world) finish(t *testing.T) int {
	t.Helper()
	for n := 1; ; n++ {
		last, e := w.step(t)
		if e != api.OK {
			t.Fatalf("Step: %d, %d free, %v", e, w.v.Free(), w.v.Super())
		}
		if last {
			return n
		}
	}
}

// one holds that no node is another but one, and that this one is the same but for its map.
func one(t *testing.T, before, after shot, n int) {
	t.Helper()
	for k := range 32 {
		a, b := before.nodes[k], after.nodes[k]
		if k != n && fmt.Sprint(a) != fmt.Sprint(b) {
			t.Fatalf("node %d: %v, not %v", k, b, a)
		}
		if k == n && (a.Kind != b.Kind || a.Links != b.Links || a.Size != b.Size || len(a.pointers) != len(b.pointers)) {
			t.Fatalf("node %d: %v, not %v", k, b, a)
		}
	}
}

// none holds that a last step has left all but the Super as it was.
func none(t *testing.T, before, after shot, want api.Super, last bool) {
	t.Helper()
	size := len(after.blocks)
	if !last || after.super != want || size != want.Size || !same(before.blocks[1:size], after.blocks[1:]) {
		t.Fatalf("Step: %v, %v, not %v", last, after.super, want)
	}
}

func migrated(t *testing.T, before, after shot, last bool) {
	t.Helper()
	want := before.super
	for n := want.Cursor; n < 32; n++ {
		if before.nodes[n].Format != 1 {
			continue
		}
		one(t, before, after, n)
		want.Cursor = n + 1
		x := after.nodes[n]
		if last || after.super != want || x.Format != 2 || !slices.Equal(before.nodes[n].pointers, x.pointers) {
			t.Fatalf("node %d: %v, %v, %v", n, last, x, after.super)
		}
		return
	}
	none(t, before, after, api.Super{Size: want.Size, Format: 2}, last)
}

func shrunk(t *testing.T, before, after shot, last bool) {
	t.Helper()
	s := before.super
	reaches := func(n int) bool { return n >= s.Goal }
	if len(before.behind(s.Goal)) == 0 {
		none(t, before, after, api.Super{Size: s.Goal, Format: s.Format}, last)
		return
	}
	n := 0
	for n < 31 && fmt.Sprint(before.nodes[n]) == fmt.Sprint(after.nodes[n]) {
		n++
	}
	one(t, before, after, n)
	a, b := before.nodes[n], after.nodes[n]
	moved := 0
	for i, p := range a.pointers {
		if q := b.pointers[i]; p != q {
			moved++
			if !reaches(p) || reaches(q) || q == 0 {
				t.Fatalf("node %d: block %d is %d, Goal is %d", n, p, q, s.Goal)
			}
		}
	}
	if last || after.super != s || moved > 4 || moved == 0 && count(a.own, reaches) <= count(b.own, reaches) || a.Format != b.Format {
		t.Fatalf("node %d: %v, %d blocks moved, %v, %v, not %v", n, last, moved, after.super, b, a)
	}
	for _, k := range after.behind(s.Goal) {
		if !slices.Contains(before.up, k) {
			t.Fatalf("block %d is taken, Goal is %d", k, s.Goal)
		}
	}
}

func gathered(t *testing.T, before, after shot, last bool) {
	t.Helper()
	want := before.super
	for n := want.Cursor; n < 32; n++ {
		a, b := before.nodes[n], after.nodes[n]
		blocks := count(a.pointers, notZero)
		if blocks > 6 || extents(a.pointers) <= whole(a.pointers) || before.gap() < blocks {
			continue
		}
		one(t, before, after, n)
		want.Cursor = n + 1
		next := 0
		for i, q := range b.pointers {
			if (q == 0) != (a.pointers[i] == 0) || q != 0 && next != 0 && q != next {
				t.Fatalf("node %d: %v, not in one run", n, b.pointers)
			}
			if q != 0 {
				next = q + 1
			}
		}
		if last || after.super != want || a.Format != b.Format || extents(b.pointers) != whole(a.pointers) {
			t.Fatalf("node %d: %v, %v, %v", n, last, b, after.super)
		}
		return
	}
	none(t, before, after, api.Super{Size: want.Size, Format: want.Format}, last)
}

// anyPath is one of few, so that most are there, behind some calls.
func anyPath(r func(n int) int) string {
	return []string{"", "", "/d", "/d", "/e", "/d/g"}[r(6)] + "/" + []string{"a", "b", "c", "f", "d", "e", "g", strings.Repeat("n", 17)}[r(8)]
}

// anyCall is more often one that makes something than one that takes it away.
func anyCall(r func(n int) int) call {
	verbs := []string{"create", "create", "mkdir", "link", "unlink", "rmdir", "rename", "read", "write", "write", "write", "write", "write", "write", "truncate", "stat", "list"}
	c := call{verb: verbs[r(len(verbs))], path: anyPath(r), other: anyPath(r), n: max(0, 64*r(14)+r(5)-2)}
	if r(6) == 0 {
		c.n = r(6200)
	}
	switch c.verb {
	case "read":
		c.m = r(7000)
	case "write":
		c.data = filled(1+r(256), r(1000))
	case "mkdir":
		c.path = []string{"/d", "/e", "/d/g", "/e/g"}[r(4)]
	}
	return c
}
