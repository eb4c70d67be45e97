package check

import (
	"bytes"
	"slices"
	"strconv"
	"testing"

	"drydock/api"
	"drydock/chain"
	"drydock/entry"
	"drydock/extent"
	"drydock/field"
	"drydock/node"
	"drydock/spin"
	"drydock/super"
	"drydock/tree"
)

// numbers is the same row of numbers for the same seed.
func numbers(seed uint32) func(n int) int {
	return func(n int) int {
		seed = seed*1664525 + 1013904223
		return int(seed>>8) % n
	}
}

// sealed is a block of these bytes, 0 behind them, and the check sum.
func sealed(first ...byte) []byte {
	b := make([]byte, 64)
	copy(b[:60], first)
	sum := spin.Sum(b[:60])
	copy(b[60:], []byte{byte(sum), byte(sum >> 8), byte(sum >> 16), byte(sum >> 24)})
	return b
}

// superOf takes what is not sound, too.
func superOf(s api.Super) []byte {
	return sealed('D', 'R', 'Y', 'D', byte(s.Size), byte(s.Size>>8), byte(s.Format), byte(s.Job), byte(s.Cursor), 0, byte(s.Goal), byte(s.Goal>>8))
}

// entriesOf takes what is not sound, too, but at most 3.
func entriesOf(list []api.Entry) []byte {
	b := make([]byte, 60)
	b[0] = byte(len(list))
	for i, x := range list {
		at := 2 + 19*i
		b[at], b[at+1] = byte(x.Node), byte(len(x.Name))
		copy(b[at+2:at+19], x.Name)
	}
	return sealed(b...)
}

func copied(blocks [][]byte) [][]byte {
	var list [][]byte
	for _, b := range blocks {
		list = append(list, bytes.Clone(b))
	}
	return list
}

func same(a, b [][]byte) bool { return slices.EqualFunc(a, b, bytes.Equal) }

// thing is a node: what it tells of itself, its pointers, the blocks that its
// map may take, and, for a directory, what stands in its blocks.
type thing struct {
	kind, format, links, size int
	pointers, fresh           []int
	entries                   [][]api.Entry
}

// volume tells of a volume; it need not be a sound one.
type volume struct {
	super api.Super
	nodes [api.MaxNodes]thing
	// data is what lies in blocks that are no directory's and no map's.
	data map[int][]byte
	// turned are the flags that are not as they should be.
	turned []int
}

// own answers how many blocks the map of pointers needs.
func own(format int, pointers []int) int {
	if format == api.Old {
		n, e := tree.Need(pointers)
		must(e)
		return n
	}
	list, e := extent.From(pointers)
	must(e)
	n, e := chain.Need(len(list))
	must(e)
	return n
}

func must(e api.Errno) {
	if e != api.OK {
		panic("error " + strconv.Itoa(int(e)))
	}
}

// mapped answers a node with its map, and the map's blocks.
func (x thing) mapped() (n api.Node, blocks []api.Write) {
	if x.kind == api.Free {
		return api.Node{}, nil
	}
	var e api.Errno
	if x.format == api.Old {
		n, blocks, e = tree.Plan(x.pointers, x.fresh)
	} else {
		list, e2 := extent.From(x.pointers)
		must(e2)
		n, blocks, e = chain.Plan(list, x.fresh)
	}
	must(e)
	n.Kind, n.Links, n.Size = x.kind, x.links, x.size
	return n, blocks
}

// blocks lays a volume out.
func (v *volume) blocks() [][]byte {
	list := make([][]byte, v.super.Size)
	for n := range list {
		list[n] = make([]byte, 64)
	}
	list[api.AtSuper] = superOf(v.super)
	list[api.AtHead] = sealed('H', 'E', 'A', 'D', 7, 0, 0, 0, 9)
	f := make([]byte, 60)
	up := func(n int) { f[n/8] |= 1 << (n % 8) }
	for n := range api.AtData {
		up(n)
	}
	for n, b := range v.data {
		copy(list[n], b)
	}
	for n, x := range v.nodes {
		for i, at := range x.pointers {
			if at != 0 {
				up(at)
			}
			if x.kind == api.Dir && i < len(x.entries) && at != 0 {
				list[at] = entriesOf(x.entries[i])
			}
		}
		told, own := x.mapped()
		for _, w := range own {
			up(w.At)
			list[w.At] = w.Data
		}
		half, e := node.Encode(told)
		must(e)
		copy(list[api.AtNodes+n/2][n%2*32:], half)
	}
	for _, n := range v.turned {
		f[n/8] ^= 1 << (n % 8)
	}
	list[api.AtFlags] = sealed(f...)
	return list
}

// opened answers what lies in blocks, if image.Open should take them, and each node can be read there.
func opened(blocks [][]byte) (s api.Super, nodes []told, ok bool) {
	for _, b := range blocks {
		if len(b) != 64 {
			return s, nil, false
		}
	}
	if len(blocks) < 64 {
		return s, nil, false
	}
	s, e := super.Decode(blocks[0])
	_, e2 := super.GetHead(blocks[1])
	if e != api.OK || e2 != api.OK || s.Size != len(blocks) || !field.Sealed(blocks[2]) {
		return s, nil, false
	}
	var lying []api.Write
	for n := 59; n < len(blocks); n++ {
		lying = append(lying, api.Write{At: n, Data: blocks[n]})
	}
	for n := range 32 {
		x, e := node.Decode(blocks[3+n/2][n%2*32 : n%2*32+32])
		y := told{Node: x}
		if e == api.OK && x.Format == api.Old {
			y.pointers, y.own, e = tree.Read(x, lying)
		}
		if e == api.OK && x.Format == api.New {
			var list []api.Extent
			list, y.own, e = chain.Read(x, lying)
			if e == api.OK {
				y.pointers, e = extent.To(list)
			}
		}
		if e != api.OK || slices.ContainsFunc(y.pointers, func(p int) bool { return p >= len(blocks) }) {
			return s, nil, false
		}
		nodes = append(nodes, y)
	}
	return s, nodes, true
}

// byWords says, one condition of the document behind the other, whether blocks are a sound volume's.
func byWords(blocks [][]byte) (format int, used []int, ok bool) {
	s, nodes, ok := opened(blocks)
	if !ok {
		return 0, nil, false
	}
	all := map[int][]api.Entry{}
	for n, x := range nodes {
		list, ok := contents(x, blocks)
		if !ok {
			return 0, nil, false
		}
		all[n] = list
	}
	up := func(n int) bool { return blocks[2][n/8]>>(n%8)&1 == 1 }
	if !wordsOfNames(nodes, all) || !wordsOfBlocks(nodes, up) || !wordsOfFormats(s, nodes) {
		return 0, nil, false
	}
	for n := range 480 {
		if up(n) {
			used = append(used, n)
		}
	}
	return s.Format, used, true
}

// contents holds what the words say of a node's own blocks; of a directory it answers the entries.
func contents(x told, blocks [][]byte) ([]api.Entry, bool) {
	count := len(x.pointers)
	if x.Kind == api.File && count > 0 {
		if x.Size <= 64*(count-1) {
			return nil, false
		}
		for i, b := range blocks[x.pointers[count-1]] {
			if 64*(count-1)+i >= x.Size && b != 0 {
				return nil, false
			}
		}
	}
	var list []api.Entry
	if x.Kind == api.Dir {
		if slices.Contains(x.pointers, 0) || x.Size != 64*count {
			return nil, false
		}
		for _, p := range x.pointers {
			more, e := entry.Decode(blocks[p])
			if e != api.OK {
				return nil, false
			}
			list = append(list, more...)
		}
	}
	for i, a := range list {
		for _, b := range list[:i] {
			if a.Name == b.Name {
				return nil, false
			}
		}
	}
	return list, true
}

func wordsOfNames(nodes []told, all map[int][]api.Entry) bool {
	if nodes[0].Kind != api.Dir {
		return false
	}
	come := []int{0}
	for i := 0; i < len(come); i++ {
		for _, x := range all[come[i]] {
			if !slices.Contains(come, x.Node) {
				come = append(come, x.Node)
			}
		}
	}
	for n, x := range nodes {
		names := 0
		for _, from := range come {
			for _, y := range all[from] {
				if y.Node == n {
					names++
				}
			}
		}
		ok := names == x.Links
		if n == 0 {
			ok = names == 0 && x.Links == 1
		} else if x.Kind == api.Dir {
			ok = names == 1 && x.Links == 1
		}
		if !ok {
			return false
		}
	}
	return true
}

func wordsOfBlocks(nodes []told, up func(n int) bool) bool {
	var list []int
	for n := range 59 {
		list = append(list, n)
	}
	for _, x := range nodes {
		for _, p := range slices.Concat(x.pointers, x.own) {
			if p != 0 && slices.Contains(list, p) {
				return false
			}
			if p != 0 {
				list = append(list, p)
			}
		}
	}
	for n := range 480 {
		if up(n) != slices.Contains(list, n) {
			return false
		}
	}
	return true
}

func wordsOfFormats(s api.Super, nodes []told) bool {
	for _, x := range nodes {
		if s.Format != api.Mixed && x.Kind != api.Free && x.Format != s.Format {
			return false
		}
	}
	if (s.Job == api.JobMigrate) != (s.Format == api.Mixed) {
		return false
	}
	if s.Job == api.JobShrink {
		return s.Goal >= 64 && s.Goal <= s.Size-1
	}
	return s.Goal == 0 && (s.Job != api.JobNone || s.Cursor == 0)
}

// answers holds both calls against what is asked of them.
func answers(t *testing.T, what string, blocks [][]byte, format int, used []int, ok bool) {
	t.Helper()
	before := copied(blocks)
	f, e := Check(blocks)
	list, e2 := Used(blocks)
	want := api.ErrForm
	if ok {
		want = api.OK
	} else {
		format, used = 0, nil
	}
	if f != format || e != want {
		t.Errorf("%s: Check: %d, %d; want %d, %d", what, f, e, format, want)
	}
	if !slices.Equal(list, used) || e2 != want {
		t.Errorf("%s: Used: %v, %d; want %v, %d", what, list, e2, used, want)
	}
	if !same(blocks, before) {
		t.Errorf("%s: what was handed in is changed", what)
	}
}

// like holds both calls against the words.
func like(t *testing.T, what string, blocks [][]byte) bool {
	t.Helper()
	format, used, ok := byWords(blocks)
	answers(t, what, blocks, format, used, ok)
	return ok
}

// maker makes volumes of any shape.
type maker struct {
	r    func(n int) int
	v    *volume
	free []int
}

// anyVolume is a sound volume of any shape, and what is free in it.
func anyVolume(r func(n int) int) *maker {
	for {
		size := []int{64, 70, 100, 200, 64 + r(417)}[r(5)]
		m := &maker{r: r, v: &volume{super: api.Super{Size: size, Format: 1 + r(2)}, data: map[int][]byte{}}}
		m.job()
		for n := 59; n < size; n++ {
			m.free = append(m.free, n)
		}
		for i := range m.free {
			if k := i + r(len(m.free)-i); r(3) > 0 {
				m.free[i], m.free[k] = m.free[k], m.free[i]
			}
		}
		m.names()
		full := false
		for n := range m.v.nodes {
			full = full || !m.fill(n)
		}
		if !full {
			return m
		}
	}
}

func (m *maker) job() {
	s := &m.v.super
	s.Job = m.r(4)
	if s.Job == api.JobNone {
		return
	}
	s.Cursor = m.r(33)
	switch {
	case s.Job == api.JobMigrate:
		s.Format = api.Mixed
	case s.Job == api.JobShrink && s.Size > 64:
		s.Goal = 64 + m.r(s.Size-64)
	case s.Job == api.JobShrink:
		s.Job = api.JobGather
	}
}

// names makes nodes, and entries that name them.
func (m *maker) names() {
	m.v.nodes[0] = thing{kind: api.Dir, links: 1}
	dirs := []int{0}
	for n := 1 + m.r(4); n < 32; n += 1 + m.r(3) {
		if m.r(3) == 0 {
			continue
		}
		kind, links := api.Dir, 1
		if m.r(3) > 0 {
			kind, links = api.File, 1+m.r(3)*m.r(2)
		}
		x := &m.v.nodes[n]
		x.kind = kind
		for range links {
			m.name(dirs[m.r(len(dirs))], n)
		}
		if kind == api.Dir && x.links > 0 {
			dirs = append(dirs, n)
		}
		if x.links == 0 {
			*x = thing{}
		}
	}
	for n := range m.v.nodes {
		x := &m.v.nodes[n]
		if x.kind != api.Free {
			x.format = m.v.super.Format
		}
		if x.format == api.Mixed {
			x.format = 1 + m.r(2)
		}
	}
}

// name puts an entry for node n into a directory, if there is room.
func (m *maker) name(dir, n int) {
	d := &m.v.nodes[dir]
	x := api.Entry{Node: n, Name: strconv.Itoa(dir) + "x" + strconv.Itoa(m.r(9999)) + "x" + strconv.Itoa(n) + "x" + strconv.Itoa(m.v.nodes[n].links)}
	at := m.r(len(d.entries) + 1)
	if at == len(d.entries) {
		if len(m.free) < 3+len(d.entries) {
			return
		}
		d.entries = append(d.entries, nil)
		d.pointers = append(d.pointers, m.take())
		d.size += 64
	}
	if len(d.entries[at]) == 3 {
		return
	}
	d.entries[at] = slices.Insert(d.entries[at], m.r(len(d.entries[at])+1), x)
	m.v.nodes[n].links++
}

func (m *maker) take() int {
	n := m.free[0]
	m.free = m.free[1:]
	return n
}

// fill gives a node the blocks that it needs, if there is room.
func (m *maker) fill(n int) bool {
	x := &m.v.nodes[n]
	if x.kind == api.File && len(m.free) > 4 {
		count := m.r(min(96, 1+[]int{3, 8, 40, 200}[m.r(4)]))
		for i := range count {
			p := 0
			if m.r(5) > 0 && len(m.free) > 12 || i == count-1 && len(m.free) > 4 {
				p = m.take()
			}
			x.pointers = append(x.pointers, p)
		}
		for len(x.pointers) > 0 && x.pointers[len(x.pointers)-1] == 0 {
			x.pointers = x.pointers[:len(x.pointers)-1]
		}
		x.size = 64 * len(x.pointers)
		if last := len(x.pointers) - 1; last >= 0 {
			x.size = 64*last + 1 + m.r(64)
		}
		m.bytes(x)
		if m.r(3) == 0 {
			x.size += m.r(96*64 - x.size + 1)
			m.zeros(x)
		}
	}
	if x.kind == api.Free {
		return true
	}
	return m.own(x)
}

// own gives a node the blocks that its map needs.
func (m *maker) own(x *thing) bool {
	need := own(x.format, x.pointers)
	if need > len(m.free) {
		return false
	}
	x.fresh = nil
	for range need {
		x.fresh = append(x.fresh, m.take())
	}
	return true
}

func (m *maker) bytes(x *thing) {
	for i, p := range x.pointers {
		if p == 0 {
			continue
		}
		b := make([]byte, 64)
		for k := range b {
			if 64*i+k < x.size {
				b[k] = byte(m.r(256))
			}
		}
		m.v.data[p] = b
	}
}

// zeros is for files whose Size is behind their last block: their bytes may be anything up to that.
func (m *maker) zeros(x *thing) {
	if last := len(x.pointers) - 1; last >= 0 && m.r(2) == 0 {
		b := m.v.data[x.pointers[last]]
		for k := range b {
			if 64*last+k < x.size {
				b[k] = byte(m.r(256))
			}
		}
	}
}
