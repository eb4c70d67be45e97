package volume

import (
	"drydock/api"
	"drydock/entry"
	"drydock/path"
)

// folder is a directory, and the entries in each of its blocks.
type folder struct {
	thing
	blocks [][]api.Entry
}

func split(s string) []string {
	return must(path.Split(s))
}

// find answers what names lead to, from the root on.
func (v *Volume) find(names []string) thing {
	x := v.thing(0)
	for _, name := range names {
		x = v.child(v.folder(x), name)
	}
	return x
}

// child answers what a name in a directory leads to.
func (v *Volume) child(f *folder, name string) thing {
	block, at, e := entry.Find(f.blocks, name)
	need(e)
	return v.thing(f.blocks[block][at].Node)
}

// file answers the file that names lead to.
func (v *Volume) file(names []string) thing {
	x := v.find(names)
	refuse(x.Kind != api.File, api.ErrKind)
	return x
}

// place answers the directory that a name, the last of some, stands in.
func (v *Volume) place(names []string) (*folder, string) {
	last := len(names) - 1
	return v.folder(v.find(names[:last])), names[last]
}

func (v *Volume) folder(x thing) *folder {
	refuse(x.Kind != api.Dir, api.ErrKind)
	f := &folder{thing: x}
	for _, p := range x.pointers {
		f.blocks = append(f.blocks, must(entry.Decode(must(v.image.Data(p)))))
	}
	return f
}

func (f *folder) names() []string {
	var names []string
	for _, list := range f.blocks {
		for _, x := range list {
			names = append(names, x.Name)
		}
	}
	return names
}

// has: is the name there?
func (f *folder) has(name string) bool {
	_, _, e := entry.Find(f.blocks, name)
	return e == api.OK
}

// with answers a directory's blocks with one entry more.
func (f *folder) with(x api.Entry) [][]api.Entry {
	blocks, _, e := entry.Add(f.blocks, x)
	need(e)
	return blocks
}

// without answers a directory's blocks without the entry of a name.
func (f *folder) without(name string) [][]api.Entry {
	blocks, _, e := entry.Remove(f.blocks, name)
	need(e)
	return blocks
}

// keep lays a directory's blocks down: there may be one behind those that lie
// there already, and those without entries are given back.
func (v *Volume) keep(f *folder) {
	var pointers []int
	var blocks [][]api.Entry
	for i, list := range f.blocks {
		if len(list) == 0 {
			continue
		}
		if i == len(f.pointers) {
			f.pointers = append(f.pointers, must(v.image.Take(1))...)
		}
		need(v.image.SetData(f.pointers[i], must(entry.Encode(list...))))
		pointers = append(pointers, f.pointers[i])
		blocks = append(blocks, list)
	}
	f.pointers, f.blocks = pointers, blocks
	f.Size = api.Block * len(pointers)
	v.store(f.thing)
}
