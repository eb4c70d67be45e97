package volume

import (
	"slices"

	"drydock/api"
)

// create makes a node with one name.
func (v *Volume) create(names []string, kind int) {
	refuse(len(names) == 0, api.ErrThere)
	f, name := v.place(names)
	refuse(f.has(name), api.ErrThere)
	n := v.vacant()
	f.blocks = f.with(api.Entry{Node: n, Name: name})
	v.keep(f)
	v.store(thing{Node: api.Node{Kind: kind, Format: v.format(), Links: 1}, number: n})
}

// vacant answers the first Free node.
func (v *Volume) vacant() int {
	for n := range api.MaxNodes {
		if v.thing(n).Kind == api.Free {
			return n
		}
	}
	panic(failure(api.ErrFull))
}

// format answers that of nodes which are made now.
func (v *Volume) format() int {
	if f := v.image.Super().Format; f != api.Mixed {
		return f
	}
	return api.New
}

// link gives a file one more name.
func (v *Volume) link(old, names []string) {
	x := v.file(old)
	refuse(len(names) == 0, api.ErrThere)
	f, name := v.place(names)
	refuse(f.has(name), api.ErrThere)
	refuse(x.Links == api.MaxLinks, api.ErrLinks)
	f.blocks = f.with(api.Entry{Node: x.number, Name: name})
	v.keep(f)
	x.Links++
	v.store(x)
}

// remove takes a name away, and with its last one a node.
func (v *Volume) remove(names []string, kind int) {
	refuse(len(names) == 0, api.ErrArg)
	f, name := v.place(names)
	x := v.child(f, name)
	refuse(x.Kind != kind, api.ErrKind)
	if kind == api.Dir {
		refuse(len(v.folder(x).names()) > 0, api.ErrBusy)
	}
	// The node goes ahead: its blocks are room for the directory's map.
	v.unname(x)
	f.blocks = f.without(name)
	v.keep(f)
}

// unname takes one name off a node.
func (v *Volume) unname(x thing) {
	x.Links--
	if x.Links == 0 {
		x = thing{number: x.number}
	}
	v.store(x)
}

// rename gives what has a name another one.
func (v *Volume) rename(old, names []string) {
	refuse(len(old) == 0 || len(names) == 0, api.ErrArg)
	from, name := v.place(old)
	x := v.child(from, name)
	if slices.Equal(old, names) {
		return
	}
	refuse(x.Kind == api.Dir && begins(names, old), api.ErrArg)
	to, next := v.place(names)
	if to.number == from.number {
		to = from
	}
	renamed := api.Entry{Node: x.number, Name: next}
	// There has to be room beside the old name, though that goes away at once.
	to.with(renamed)
	from.blocks = from.without(name)
	to.blocks = to.with(renamed)
	v.keep(from)
	if to != from {
		v.keep(to)
	}
}

// begins: are these the first ones of the names?
func begins(names, first []string) bool {
	return len(first) <= len(names) && slices.Equal(names[:len(first)], first)
}
