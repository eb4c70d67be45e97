package check

import (
	"bytes"
	"slices"
	"strconv"
	"strings"
	"testing"

	"drydock/api"
	"drydock/image"
)

// usual is a sound volume of 120 blocks with everything that one has: node 1 is
// a directory in the root, 2 one in that, 3 a file of two names, 4 one with
// holes and a map of its own, 5 one without blocks, 6 a directory without any.
func usual(format int) *volume {
	v := &volume{super: api.Super{Size: 120, Format: format}, data: map[int][]byte{}}
	dir := func(n int, pointers []int, entries ...[]api.Entry) {
		v.nodes[n] = thing{kind: api.Dir, format: format, links: 1, size: 64 * len(pointers), pointers: pointers, entries: entries}
	}
	file := func(n, links, size int, pointers, fresh []int) {
		v.nodes[n] = thing{kind: api.File, format: format, links: links, size: size, pointers: pointers, fresh: fresh[:own(format, pointers)]}
	}
	dir(0, []int{60, 70}, []api.Entry{{Node: 3, Name: "c"}, {Node: 1, Name: "a"}}, []api.Entry{{Node: 6, Name: "f"}})
	dir(1, []int{59}, []api.Entry{{Node: 2, Name: "b"}, {Node: 3, Name: "c"}, {Node: 4, Name: "d"}})
	dir(2, []int{119}, []api.Entry{{Node: 5, Name: strings.Repeat("e", 17)}})
	dir(6, nil)
	file(3, 2, 100, []int{61, 62}, nil)
	file(4, 1, 700, []int{80, 0, 82, 0, 84, 0, 0, 0, 0, 100, 99}, []int{110, 111})
	file(5, 1, 0, nil, nil)
	v.data[61] = bytes.Repeat([]byte{1}, 64)
	v.data[62] = bytes.Repeat([]byte{2}, 36)
	v.data[99] = bytes.Repeat([]byte{3}, 60)
	return v
}

// usedOf are the blocks that usual needs.
func usedOf(format int) []int {
	var list []int
	for n := range 63 {
		list = append(list, n)
	}
	list = append(list, 70, 80, 82, 84, 99, 100, 110)
	return append(list, 119)
}

// sound and unsound hold both calls at a volume that is so.
func sound(t *testing.T, what string, v *volume) {
	t.Helper()
	blocks := v.blocks()
	var used []int
	for n := range 480 {
		if blocks[2][n/8]>>(n%8)&1 == 1 {
			used = append(used, n)
		}
	}
	answers(t, what, blocks, v.super.Format, used, true)
	if _, _, ok := byWords(blocks); !ok {
		t.Errorf("%s: not sound by the words", what)
	}
}

func unsound(t *testing.T, what string, v *volume) {
	t.Helper()
	blocks := v.blocks()
	if _, e := image.Open(blocks); e != api.OK {
		t.Errorf("%s: Open: %d", what, e)
	}
	answers(t, what, blocks, 0, nil, false)
	if _, _, ok := byWords(blocks); ok {
		t.Errorf("%s: sound by the words", what)
	}
}

// each does something for a usual volume of each format.
func each(f func(v *volume)) {
	f(usual(api.Old))
	f(usual(api.New))
}

func TestUsual(t *testing.T) {
	for _, format := range []int{api.Old, api.New} {
		answers(t, "usual", usual(format).blocks(), format, usedOf(format), true)
		sound(t, "usual", usual(format))
	}
}

func TestEmpty(t *testing.T) {
	for _, size := range []int{64, 65, 200, 479, 480} {
		for _, format := range []int{api.Old, api.New} {
			m, e := image.Make(size, format)
			must(e)
			answers(t, "empty", m.Blocks(), format, usedOf(format)[:59], true)
		}
	}
}

func TestNoVolume(t *testing.T) {
	answers(t, "nil", nil, 0, nil, false)
	answers(t, "empty", [][]byte{}, 0, nil, false)
	answers(t, "nil blocks", make([][]byte, 100), 0, nil, false)
	each(func(v *volume) {
		blocks := v.blocks()
		answers(t, "a block less", blocks[:119], 0, nil, false)
		answers(t, "a block more", append(copied(blocks), make([]byte, 64)), 0, nil, false)
		for _, n := range []int{0, 1, 2, 3, 18, 19, 58, 59, 90, 119} {
			for _, b := range [][]byte{nil, blocks[n][:63], append(bytes.Clone(blocks[n]), 0)} {
				other := copied(blocks)
				other[n] = b
				answers(t, "a block of another length", other, 0, nil, false)
			}
		}
		for n := range 19 {
			other := copied(blocks)
			other[n][5] ^= 64
			answers(t, "a check sum that is not right", other, 0, nil, false)
		}
	})
}

// The log, what is free, and the Head may be anything.
func TestOtherBlocks(t *testing.T) {
	each(func(v *volume) {
		format, used := v.super.Format, usedOf(v.super.Format)
		for n := 19; n < 120; n++ {
			blocks := v.blocks()
			blocks[n][63] ^= 1
			blocks[n][0] ^= 255
			ok := n < 59 || !slices.Contains(used, n) || slices.Contains([]int{61, 80, 82, 84, 100}, n)
			if n == 62 || n == 99 {
				// What is behind the Size is changed, too.
				ok = false
			}
			answers(t, "other bytes in block "+strconv.Itoa(n), blocks, format, used, ok)
		}
		blocks := v.blocks()
		blocks[1] = sealed('H', 'E', 'A', 'D', 39, 0, 0, 0, 0, 0, 0, 64)
		answers(t, "another Head", blocks, format, used, true)
		blocks[1] = sealed('H', 'E', 'A', 'D', 40, 0, 0, 0, 1)
		answers(t, "no Head", blocks, 0, nil, false)
	})
}

func TestNodesNotRead(t *testing.T) {
	each(func(v *volume) {
		for _, c := range []struct {
			what            string
			pointers, fresh []int
		}{
			{"a pointer behind the volume", []int{80, 120}, nil},
			{"a pointer far behind it", []int{479}, nil},
			{"a map behind the volume", []int{80, 0, 82, 0, 84, 0, 86, 0}, []int{120}},
		} {
			v.nodes[4].pointers, v.nodes[4].fresh, v.nodes[4].size = c.pointers, c.fresh, 640
			blocks := (&volume{super: v.super, data: v.data}).blocks()
			big := *v
			big.super.Size = 480
			copy(blocks[2:], big.blocks()[2:120])
			answers(t, c.what, blocks, 0, nil, false)
		}
	})
	each(func(v *volume) {
		blocks := v.blocks()
		blocks[110][8]++
		answers(t, "a map that can't be read", blocks, 0, nil, false)
	})
	// One that no entry names has to be read, too.
	each(func(v *volume) {
		v.nodes[31] = thing{kind: api.File, format: v.super.Format, links: 1, size: 640, pointers: []int{90, 0, 91, 0, 92, 0, 93, 0}, fresh: []int{94}}
		blocks := v.blocks()
		blocks[94][8]++
		answers(t, "a map of no one", blocks, 0, nil, false)
	})
}

func TestRoot(t *testing.T) {
	for _, format := range []int{api.Old, api.New} {
		v := &volume{super: api.Super{Size: 64, Format: format}}
		v.nodes[0] = thing{kind: api.Dir, format: format, links: 1}
		sound(t, "a root alone", v)
		v.nodes[0].links = 2
		unsound(t, "a root of two links", v)
		v.nodes[0] = thing{}
		unsound(t, "no root", v)
		v.nodes[0] = thing{kind: api.File, format: format, links: 1}
		unsound(t, "a root that is a file", v)
		v.nodes[0] = thing{kind: api.Dir, format: format, links: 1, size: 64, pointers: []int{59}, entries: [][]api.Entry{{{Node: 0, Name: "a"}}}}
		unsound(t, "a root that names itself", v)
		v.nodes[0].links = 2
		unsound(t, "a root that names itself, of two links", v)
		v.nodes[0].kind, v.nodes[0].links = api.File, 1
		unsound(t, "a file at the root that holds entries", v)
	}
	each(func(v *volume) {
		v.nodes[2].entries[0] = append(v.nodes[2].entries[0], api.Entry{Node: 0, Name: "a"})
		unsound(t, "a root that is named below", v)
	})
}

func TestNames(t *testing.T) {
	for _, c := range []struct {
		what string
		f    func(v *volume)
		ok   bool
	}{
		{"a file of no name", func(v *volume) { v.nodes[7] = thing{kind: api.File, format: v.super.Format, links: 1} }, false},
		{"the last node, of no name", func(v *volume) { v.nodes[31] = thing{kind: api.File, format: v.super.Format, links: 1} }, false},
		{"a directory of no name", func(v *volume) { v.nodes[7] = thing{kind: api.Dir, format: v.super.Format, links: 1} }, false},
		{"a link too many", func(v *volume) { v.nodes[3].links = 3 }, false},
		{"a link less", func(v *volume) { v.nodes[3].links = 1 }, false},
		{"as many links as can be", func(v *volume) { v.nodes[3].links = 1000 }, false},
		{"two links of a directory of one name", func(v *volume) { v.nodes[2].links = 2 }, false},
		{"a name more", func(v *volume) { v.nodes[2].entries[0] = append(v.nodes[2].entries[0], api.Entry{Node: 4, Name: "x"}) }, false},
		{"a name more, and a link", func(v *volume) {
			v.nodes[2].entries[0] = append(v.nodes[2].entries[0], api.Entry{Node: 4, Name: "x"})
			v.nodes[4].links++
		}, true},
		{"two names in one directory, and two links", func(v *volume) {
			v.nodes[2].entries[0] = append(v.nodes[2].entries[0], api.Entry{Node: 5, Name: "x"})
			v.nodes[5].links++
		}, true},
		{"two names of a directory", func(v *volume) {
			v.nodes[2].entries[0] = append(v.nodes[2].entries[0], api.Entry{Node: 6, Name: "x"})
		}, false},
		{"two names of a directory, and two links", func(v *volume) {
			v.nodes[2].entries[0] = append(v.nodes[2].entries[0], api.Entry{Node: 6, Name: "x"})
			v.nodes[6].links++
		}, false},
		{"two names of a directory in one", func(v *volume) {
			v.nodes[0].entries[1] = append(v.nodes[0].entries[1], api.Entry{Node: 6, Name: "x"})
		}, false},
		{"a name less", func(v *volume) { v.nodes[0].entries[0] = v.nodes[0].entries[0][1:] }, false},
		{"a name less, and a link", func(v *volume) {
			v.nodes[0].entries[0] = v.nodes[0].entries[0][1:]
			v.nodes[3].links--
		}, true},
		{"a directory without names", func(v *volume) { v.nodes[2].entries[0] = nil }, false},
		{"a directory without names, and what it named is gone", func(v *volume) {
			v.nodes[2].entries[0] = nil
			v.nodes[5] = thing{}
		}, true},
		{"a name of a Free node", func(v *volume) { v.nodes[5] = thing{} }, false},
		{"a name of a node that never was", func(v *volume) {
			v.nodes[2].entries[0] = append(v.nodes[2].entries[0], api.Entry{Node: 31, Name: "x"})
		}, false},
		{"a name of the last node", func(v *volume) {
			v.nodes[2].entries[0] = append(v.nodes[2].entries[0], api.Entry{Node: 31, Name: "x"})
			v.nodes[31] = thing{kind: api.File, format: v.super.Format, links: 1}
		}, true},
		{"a directory that is named by itself alone", func(v *volume) {
			v.nodes[7] = thing{kind: api.Dir, format: v.super.Format, links: 1, size: 64, pointers: []int{90}, entries: [][]api.Entry{{{Node: 7, Name: "x"}}}}
		}, false},
		{"two directories that name each other alone", func(v *volume) {
			v.nodes[7] = thing{kind: api.Dir, format: v.super.Format, links: 1, size: 64, pointers: []int{90}, entries: [][]api.Entry{{{Node: 8, Name: "x"}}}}
			v.nodes[8] = thing{kind: api.Dir, format: v.super.Format, links: 1, size: 64, pointers: []int{91}, entries: [][]api.Entry{{{Node: 7, Name: "x"}}}}
		}, false},
		{"a ring that is come to", func(v *volume) {
			v.nodes[2].entries[0] = append(v.nodes[2].entries[0], api.Entry{Node: 1, Name: "x"})
		}, false},
		{"a ring that is come to, and two links", func(v *volume) {
			v.nodes[2].entries[0] = append(v.nodes[2].entries[0], api.Entry{Node: 1, Name: "x"})
			v.nodes[1].links = 2
		}, false},
		{"a file that a directory names which is not come to", func(v *volume) {
			v.nodes[7] = thing{kind: api.Dir, format: v.super.Format, links: 1, size: 64, pointers: []int{90}, entries: [][]api.Entry{{{Node: 8, Name: "x"}}}}
			v.nodes[8] = thing{kind: api.File, format: v.super.Format, links: 1}
		}, false},
		{"a link by a file's bytes", func(v *volume) {
			v.data[61] = entriesOf([]api.Entry{{Node: 7, Name: "x"}})
			v.nodes[7] = thing{kind: api.File, format: v.super.Format, links: 1}
		}, false},
	} {
		each(func(v *volume) {
			c.f(v)
			if c.ok {
				sound(t, c.what, v)
			} else {
				unsound(t, c.what, v)
			}
		})
	}
}

// A file may be named as often as there is room for it, and by all directories.
func TestManyNames(t *testing.T) {
	for _, format := range []int{api.Old, api.New} {
		v := &volume{super: api.Super{Size: 480, Format: format}}
		names := 0
		at := 59
		dir := func(n, blocks int) {
			x := &v.nodes[n]
			*x = thing{kind: api.Dir, format: format, links: 1, size: 64 * blocks}
			for i := range blocks {
				x.pointers = append(x.pointers, at)
				at++
				var list []api.Entry
				for k := range 3 {
					list = append(list, api.Entry{Node: 9, Name: strconv.Itoa(3*i + k)})
				}
				if i == 0 && n < 3 {
					list[0].Node = n + 1
				}
				for _, y := range list {
					if y.Node == 9 {
						names++
					}
				}
				x.entries = append(x.entries, list)
			}
			for range own(format, x.pointers) {
				x.fresh = append(x.fresh, at)
				at++
			}
		}
		dir(0, 96)
		dir(1, 96)
		dir(2, 96)
		dir(3, 96-18)
		for links := 1000; names > links; names-- {
			x := &v.nodes[3]
			list := x.entries[len(x.entries)-1]
			x.entries[len(x.entries)-1] = list[:len(list)-1]
			if len(list) == 1 {
				x.entries, x.pointers, x.size = x.entries[:len(x.entries)-1], x.pointers[:len(x.pointers)-1], x.size-64
			}
		}
		x := &v.nodes[3]
		x.fresh = x.fresh[:own(format, x.pointers)]
		v.nodes[9] = thing{kind: api.File, format: format, links: names}
		sound(t, "many names", v)
		v.nodes[9].links--
		unsound(t, "many names, and a link less", v)
		v.nodes[9].links = 1 + (names+1)%1000
		unsound(t, "many names, and a link more", v)
	}
}

// All nodes may be directories, each in the one ahead.
func TestDeep(t *testing.T) {
	for _, format := range []int{api.Old, api.New} {
		v := &volume{super: api.Super{Size: 120, Format: format}}
		for n := range 32 {
			v.nodes[n] = thing{kind: api.Dir, format: format, links: 1}
			if n < 31 {
				v.nodes[n].size, v.nodes[n].pointers, v.nodes[n].entries = 64, []int{100 - n}, [][]api.Entry{{{Node: n + 1, Name: "x"}}}
			}
		}
		sound(t, "deep", v)
		v.nodes[15].entries = [][]api.Entry{{{Node: 17, Name: "x"}}}
		unsound(t, "deep, and one passed over", v)
		v.nodes[15].entries = [][]api.Entry{{{Node: 14, Name: "x"}}}
		unsound(t, "deep, and back", v)
	}
}

func TestDirs(t *testing.T) {
	for _, c := range []struct {
		what string
		f    func(x *thing)
		ok   bool
	}{
		{"a byte more", func(x *thing) { x.size++ }, false},
		{"a byte less", func(x *thing) { x.size-- }, false},
		{"a block more", func(x *thing) { x.size += 64 }, false},
		{"a block less", func(x *thing) { x.size -= 64 }, false},
		{"no bytes", func(x *thing) { x.size = 0 }, false},
		{"a pointer that is 0 ahead", func(x *thing) {
			x.pointers, x.size = append([]int{0}, x.pointers...), 192
			x.entries = append([][]api.Entry{nil}, x.entries...)
		}, false},
		{"a pointer that is 0 between", func(x *thing) {
			x.pointers, x.size = []int{60, 0, 70}, 192
			x.entries = slices.Insert(x.entries, 1, nil)
		}, false},
		{"a pointer that is 0 and no byte for it", func(x *thing) {
			x.pointers = []int{60, 0, 70}
			x.entries = slices.Insert(x.entries, 1, nil)
		}, false},
		{"a block without entries", func(x *thing) {
			x.pointers, x.size = []int{60, 90, 70}, 192
			x.entries = slices.Insert(x.entries, 1, nil)
		}, true},
		{"a block without entries, at the end", func(x *thing) {
			x.pointers, x.size = []int{60, 70, 90}, 192
			x.entries = append(x.entries, nil)
		}, true},
		{"a name twice in a block", func(x *thing) { x.entries[0][1].Name = x.entries[0][0].Name }, false},
		{"a name twice in two blocks", func(x *thing) { x.entries[1][0].Name = x.entries[0][0].Name }, false},
		{"names of other lengths", func(x *thing) { x.entries[0][0].Name, x.entries[1][0].Name = "ff", "fff" }, true},
		{"an empty name", func(x *thing) { x.entries[0][0].Name = "" }, false},
		{"a name that is a point", func(x *thing) { x.entries[0][0].Name = "." }, false},
		{"a name of two points", func(x *thing) { x.entries[0][0].Name = ".." }, false},
		{"a name with a /", func(x *thing) { x.entries[0][0].Name = "a/b" }, false},
		{"a name of bytes of any kind", func(x *thing) { x.entries[0][0].Name = "\xff\n..." }, true},
		{"a node behind the last", func(x *thing) { x.entries[0][0].Node = 32 }, false},
		{"other blocks", func(x *thing) { x.pointers = []int{118, 117} }, true},
	} {
		each(func(v *volume) {
			c.f(&v.nodes[0])
			if c.ok {
				sound(t, c.what, v)
			} else {
				unsound(t, c.what, v)
			}
		})
	}
	// A name may stand in two directories, and be that of its own one.
	each(func(v *volume) {
		v.nodes[2].entries[0][0].Name = "b"
		v.nodes[0].entries[1][0].Name = "b"
		sound(t, "one name in all directories", v)
	})
	each(func(v *volume) {
		for _, b := range [][]byte{make([]byte, 64), sealed(4), entriesOf(nil)[:60], sealed(0, 1)} {
			blocks := v.blocks()
			blocks[119] = append(bytes.Clone(b), make([]byte, 64-len(b))...)
			v.nodes[5] = thing{}
			answers(t, "no block of entries", blocks, 0, nil, false)
		}
	})
}

// Each Size of a file of each number of pointers, and each byte behind it.
func TestFiles(t *testing.T) {
	for _, format := range []int{api.Old, api.New} {
		for _, count := range []int{0, 1, 2, 3, 5, 34, 35, 95, 96} {
			for _, size := range []int{0, 1, 63, 64, 65, 64*count - 65, 64*count - 64, 64*count - 63, 64*count - 40, 64*count - 1, 64 * count, 64*count + 1, 64*count + 64, 64*count + 65, 96*64 - 1, 96 * 64} {
				if size < 0 || size > 96*64 {
					continue
				}
				what := "a file of " + strconv.Itoa(count) + " pointers and " + strconv.Itoa(size) + " bytes"
				v := usual(format)
				x := &v.nodes[5]
				x.size = size
				for i := range count {
					x.pointers = append(x.pointers, 121+i)
				}
				v.super.Size = 400
				for i := range own(format, x.pointers) {
					x.fresh = append(x.fresh, 300+i)
				}
				if count > 0 && size <= 64*(count-1) {
					unsound(t, what, v)
					continue
				}
				sound(t, what, v)
				fileTails(t, what, v)
			}
		}
	}
}

// fileTails goes through the bytes of the last block of node 5.
func fileTails(t *testing.T, what string, v *volume) {
	x := v.nodes[5]
	if len(x.pointers) == 0 {
		return
	}
	last := len(x.pointers) - 1
	blocks := v.blocks()
	_, used, _ := byWords(blocks)
	at := x.pointers[last]
	reach := min(64, x.size-64*last)
	for i := range 64 {
		if last != 1 && i > 1 && i < 62 && i != reach-1 && i != reach && i != reach+1 {
			continue
		}
		blocks[at] = make([]byte, 64)
		blocks[at][i] = byte(1 + i*3)
		answers(t, what+", byte "+strconv.Itoa(i), blocks, v.super.Format, used, i < reach)
	}
	if last > 0 && x.pointers[last-1] > 0 {
		blocks[at] = make([]byte, 64)
		blocks[x.pointers[last-1]] = bytes.Repeat([]byte{9}, 64)
		answers(t, what+", a block ahead", blocks, v.super.Format, used, true)
	}
}

// Holes count: a file's last block lies as far as its pointers say.
func TestFilesWithHoles(t *testing.T) {
	each(func(v *volume) {
		x := &v.nodes[5]
		x.pointers = make([]int, 10)
		x.pointers[9] = 90
		x.fresh = []int{91}[:own(x.format, x.pointers)]
		for _, size := range []int{0, 1, 64, 65, 575, 576, 577, 639, 640, 641, 6144} {
			x.size = size
			if size > 576 {
				sound(t, "holes", v)
				fileTails(t, "holes", v)
			} else {
				unsound(t, "holes", v)
			}
		}
	})
}

// No block is there for two, or twice for one.
func TestSharedBlocks(t *testing.T) {
	for _, c := range []struct {
		what string
		f    func(v *volume)
	}{
		{"a pointer of two files", func(v *volume) { v.nodes[4].pointers[2] = 62 }},
		{"a last pointer of two files", func(v *volume) { v.nodes[4].pointers[10] = 62 }},
		{"a pointer of a file and a directory", func(v *volume) { v.nodes[3].pointers[0] = 60 }},
		{"a pointer of a file and a directory of its own", func(v *volume) { v.nodes[3].pointers[0] = 119 }},
		{"a pointer of two directories", func(v *volume) {
			v.nodes[1].entries[0] = nil
			v.nodes[2], v.nodes[4], v.nodes[5] = thing{}, thing{}, thing{}
			v.nodes[3].links = 1
			v.nodes[6] = thing{kind: api.Dir, format: v.super.Format, links: 1, size: 64, pointers: []int{59}, entries: [][]api.Entry{nil}}
		}},
		{"a pointer that is another's map", func(v *volume) { v.nodes[3].pointers[0] = 110 }},
		{"a map of two files", func(v *volume) {
			x := v.nodes[4]
			x.links, x.pointers = 1, slices.Clone(x.pointers)
			for i, p := range x.pointers {
				if p > 0 && i < 4 {
					x.pointers[i] = p + 6
				}
			}
			v.nodes[5] = x
		}},
	} {
		each(func(v *volume) {
			c.f(v)
			unsound(t, c.what, v)
		})
	}
}

// Each flag that is not as it should be.
func TestFlags(t *testing.T) {
	for _, size := range []int{120, 480} {
		each(func(v *volume) {
			v.super.Size = size
			sound(t, "usual", v)
			for n := range 480 {
				v.turned = []int{n}
				unsound(t, "flag "+strconv.Itoa(n), v)
			}
			v.turned = []int{59, 90}
			unsound(t, "two flags", v)
		})
	}
}

func TestFormats(t *testing.T) {
	each(func(v *volume) {
		for n := range 7 {
			w := usual(v.super.Format)
			x := &w.nodes[n]
			x.format = 3 - x.format
			x.fresh = []int{110, 111}[:own(x.format, x.pointers)]
			unsound(t, "a node of another format", w)
			w.super.Format, w.super.Job = api.Mixed, api.JobMigrate
			sound(t, "a mixed volume", w)
		}
		v.super.Format = 3 - v.super.Format
		unsound(t, "a volume of another format", v)
		v.super.Format, v.super.Job = api.Mixed, api.JobMigrate
		sound(t, "a mixed volume of one format", v)
	})
}

// All jobs, with all formats and cursors, and goals at their ends.
func TestJobs(t *testing.T) {
	for _, size := range []int{120, 480} {
		each(func(v *volume) {
			format := v.super.Format
			for job := range 4 {
				for f := 1; f <= 3; f++ {
					for _, cursor := range []int{0, 1, 2, 7, 31, 32} {
						for _, goal := range []int{0, 1, 59, 62, 63, 64, 65, 119, size - 2, size - 1, size, 480} {
							v.super = api.Super{Size: size, Format: f, Job: job, Cursor: cursor, Goal: goal}
							ok := f == format
							switch job {
							case api.JobNone:
								ok = ok && cursor == 0 && goal == 0
							case api.JobMigrate:
								ok = f == api.Mixed && goal == 0
							case api.JobShrink:
								ok = ok && goal >= 64 && goal < size
							case api.JobGather:
								ok = ok && goal == 0
							}
							what := "job " + strconv.Itoa(job) + " format " + strconv.Itoa(f) + " cursor " + strconv.Itoa(cursor) + " goal " + strconv.Itoa(goal)
							if ok {
								sound(t, what, v)
							} else {
								unsound(t, what, v)
							}
						}
					}
				}
			}
		})
	}
}

// The least volume can't be made smaller.
func TestShrinkOfTheLeast(t *testing.T) {
	for goal := range 481 {
		v := &volume{super: api.Super{Size: 64, Format: api.New, Job: api.JobShrink, Goal: goal}}
		v.nodes[0] = thing{kind: api.Dir, format: api.New, links: 1}
		unsound(t, "goal "+strconv.Itoa(goal), v)
	}
}

// What is answered is no one else's, and the same each time.
func TestMemory(t *testing.T) {
	each(func(v *volume) {
		blocks := v.blocks()
		for i := range blocks {
			blocks[i] = append(blocks[i], 77, 78)[:64]
		}
		list, e := Used(blocks)
		must(e)
		want := slices.Clone(list)
		spare := list[:cap(list)]
		for i := range spare {
			spare[i] = -1
		}
		again, e := Used(blocks)
		if e != api.OK || !slices.Equal(again, want) {
			t.Errorf("Used: %v, %d", again, e)
		}
		for _, b := range blocks {
			if more := b[:66]; more[64] != 77 || more[65] != 78 {
				t.Error("spare room is changed")
			}
		}
		if !same(blocks, v.blocks()) {
			t.Error("blocks are changed")
		}
	})
}

// Volumes of any shape are sound.
func TestAnyVolumes(t *testing.T) {
	r := numbers(1)
	for range 1500 {
		sound(t, "any", anyVolume(r).v)
	}
}

// spoils are changes that most often leave a volume not sound.
func spoils() map[string]func(m *maker, n int) {
	block := func(m *maker, n int) *[]api.Entry {
		if x := &m.v.nodes[n]; len(x.entries) > 0 {
			return &x.entries[m.r(len(x.entries))]
		}
		return nil
	}
	return map[string]func(m *maker, n int){
		"links": func(m *maker, n int) { m.v.nodes[n].links = max(1, m.v.nodes[n].links+m.r(3)-1) },
		"size":  func(m *maker, n int) { m.v.nodes[n].size = m.r(6145) },
		"size near": func(m *maker, n int) {
			m.v.nodes[n].size = min(6144, max(0, m.v.nodes[n].size+m.r(130)-65))
		},
		"free": func(m *maker, n int) { m.v.nodes[n] = thing{} },
		"kind": func(m *maker, n int) { m.v.nodes[n].kind = 3 - m.v.nodes[n].kind },
		"format": func(m *maker, n int) {
			x := &m.v.nodes[n]
			x.format = 3 - x.format
			if !m.own(x) {
				x.format = 3 - x.format
			}
		},
		"whom": func(m *maker, n int) {
			if list := block(m, n); list != nil && len(*list) > 0 {
				(*list)[m.r(len(*list))].Node = m.r(32)
			}
		},
		"entry gone": func(m *maker, n int) {
			if list := block(m, n); list != nil && len(*list) > 0 {
				*list = (*list)[1:]
			}
		},
		"entry more": func(m *maker, n int) {
			if list := block(m, n); list != nil && len(*list) < 3 {
				at := m.r(32)
				*list = append(*list, api.Entry{Node: at, Name: "more"})
				if x := &m.v.nodes[at]; x.kind == api.File && m.r(2) == 0 {
					x.links++
				}
			}
		},
		"name": func(m *maker, n int) {
			a, b := block(m, n), block(m, n)
			if a != nil && len(*a) > 0 && len(*b) > 0 {
				(*a)[0].Name = (*b)[len(*b)-1].Name
			}
		},
		"swap": func(m *maker, n int) {
			a, b := block(m, n), block(m, m.r(32))
			if b == nil {
				b = block(m, 0)
			}
			if a != nil && b != nil && len(*a) > 0 && len(*b) > 0 {
				(*a)[0].Node, (*b)[0].Node = (*b)[0].Node, (*a)[0].Node
			}
		},
		"share": func(m *maker, n int) {
			x, y := &m.v.nodes[n], m.v.nodes[m.r(32)]
			all := slices.Concat(y.pointers, y.fresh)
			if len(x.pointers) == 0 || len(all) == 0 {
				return
			}
			p := all[m.r(len(all))]
			if !slices.Contains(x.pointers, p) && !slices.Contains(x.fresh, p) && x.pointers[len(x.pointers)-1] != 0 && p != 0 {
				x.pointers[len(x.pointers)-1] = p
				m.own(x)
			}
		},
		"share map": func(m *maker, n int) {
			x, y := &m.v.nodes[n], m.v.nodes[m.r(32)]
			all := slices.Concat(y.pointers, y.fresh)
			if len(x.fresh) == 0 || len(all) == 0 {
				return
			}
			p := all[m.r(len(all))]
			if !slices.Contains(x.pointers, p) && !slices.Contains(x.fresh, p) && p != 0 {
				x.fresh[m.r(len(x.fresh))] = p
			}
		},
		"hole": func(m *maker, n int) {
			if x := &m.v.nodes[n]; len(x.pointers) > 1 {
				x.pointers[m.r(len(x.pointers)-1)] = 0
				m.own(x)
			}
		},
		"flag": func(m *maker, n int) { m.v.turned = []int{m.r(480)} },
		"job": func(m *maker, n int) {
			s := &m.v.super
			switch m.r(4) {
			case 0:
				s.Job = m.r(4)
			case 1:
				s.Format = 1 + m.r(3)
			case 2:
				s.Cursor = m.r(33)
			case 3:
				s.Goal = m.r(481)
			}
		},
		"bytes": func(m *maker, n int) {
			if x := m.v.nodes[n]; len(x.pointers) > 0 && x.kind == api.File {
				if b := m.v.data[x.pointers[len(x.pointers)-1]]; b != nil {
					b[m.r(64)]++
				}
			}
		},
	}
}

// Each change is held against the words, and makes some volumes unsound.
func TestSpoiltVolumes(t *testing.T) {
	r := numbers(2)
	all := spoils()
	var names []string
	for what := range all {
		names = append(names, what)
	}
	slices.Sort(names)
	for _, what := range names {
		refused := 0
		for range 250 {
			m := anyVolume(r)
			all[what](m, m.r(32)*m.r(2))
			if r(4) == 0 {
				all[names[r(len(names))]](m, m.r(32))
			}
			if !spoilt(m) {
				continue
			}
			if !like(t, what, m.v.blocks()) {
				refused++
			}
		}
		if refused < 10 {
			t.Errorf("%s: only %d were not sound", what, refused)
		}
	}
}

// spoilt: can the volume still be laid out?
func spoilt(m *maker) (ok bool) {
	defer func() {
		if recover() != nil {
			ok = false
		}
	}()
	m.v.blocks()
	return true
}

// Any bytes that are others, with check sums that are right and such that are not.
func TestOtherBytes(t *testing.T) {
	r := numbers(3)
	refused, taken := 0, 0
	for range 4000 {
		blocks := anyVolume(r).v.blocks()
		for range 1 + r(2) {
			n := r(len(blocks))
			if r(2) == 0 {
				n = r(22)
			}
			b := blocks[n]
			b[r(60)] ^= 1 << r(8)
			if r(4) > 0 {
				blocks[n] = sealed(b[:60]...)
			}
		}
		if like(t, "bytes", blocks) {
			taken++
		} else {
			refused++
		}
	}
	if refused < 500 || taken < 500 {
		t.Errorf("%d were not sound, %d were", refused, taken)
	}
}
