package move

import (
	"slices"

	"drydock/api"
	"drydock/choose"
)

const (
	// mostCarried is how many pointers a step of JobShrink may lay elsewhere.
	mostCarried = 4
	// mostGathered is how many blocks a file may have that is laid in one run.
	mostGathered = 6
)

// migrate brings a node to the new format.
func (w *worker) migrate() (bool, api.Errno) {
	cursor := w.Super().Cursor
	old, e := w.such(0, func(x thing) bool { return x.Format == api.Old })
	if e != api.OK {
		return false, e
	}
	i := slices.IndexFunc(old, func(x thing) bool { return x.number >= cursor })
	if i >= 0 {
		if e := w.renew(old[i]); e != api.OK {
			return false, e
		}
		return false, w.pass(old[i])
	}
	// No step leaves Old nodes ahead of Cursor, but a volume may be mounted that has
	// some: it would not be sound if it were New beside them.
	if e := w.renew(old...); e != api.OK {
		return false, e
	}
	return true, w.end(api.New)
}

// renew lays the maps of nodes in the new format.
func (w *worker) renew(list ...thing) api.Errno {
	for _, x := range list {
		x.Format = api.New
		if e := w.Store(x.number, x.Node, x.pointers); e != api.OK {
			return e
		}
	}
	return api.OK
}

// shrink lays some blocks ahead of Goal.
func (w *worker) shrink() (bool, api.Errno) {
	s := w.Super()
	behind := func(p int) bool { return p >= s.Goal }
	list, e := w.such(0, func(x thing) bool {
		return slices.ContainsFunc(x.pointers, behind) || slices.ContainsFunc(x.own, behind)
	})
	if e != api.OK {
		return false, e
	}
	if len(list) == 0 {
		if e := w.Resize(s.Goal); e != api.OK {
			return false, e
		}
		return true, w.end(s.Format)
	}
	// Where there is no room for one node's blocks there may be for another's.
	for _, x := range list {
		if e = w.draw(x, behind); e != api.ErrSpace {
			break
		}
	}
	return false, e
}

// draw lays some of a node's blocks that lie behind Goal ahead of it; fewer pointers,
// where there is no room for more. Its own blocks go as its map is laid anew.
func (w *worker) draw(x thing, behind func(p int) bool) api.Errno {
	list := places(x.pointers, behind)
	least := 1
	if slices.ContainsFunc(x.own, behind) {
		least = 0
	}
	for count := min(mostCarried, len(list)); count >= least; count-- {
		if e := w.carry(x, list[:count]); e != api.ErrSpace {
			return e
		}
		w.Undo()
	}
	return api.ErrSpace
}

// gather lays a node's blocks in one run.
func (w *worker) gather() (bool, api.Errno) {
	s := w.Super()
	list, e := w.such(s.Cursor, w.mayGather)
	if e != api.OK {
		return false, e
	}
	if len(list) == 0 {
		return true, w.end(s.Format)
	}
	x := list[0]
	if e := w.carry(x, places(x.pointers, lies)); e != api.OK {
		return false, e
	}
	return false, w.pass(x)
}

// mayGather: is a node in more pieces than it needs, and is there a run for it?
func (w *worker) mayGather(x thing) bool {
	count := len(places(x.pointers, lies))
	return count <= mostGathered && pieces(x.pointers) > pieces(inOneRun(x.pointers)) && w.hasRun(count)
}

// hasRun: is there a free run of so many blocks?
func (w *worker) hasRun(count int) bool {
	_, e := choose.First(flagsIn(w.Blocks()), count, api.AtData, w.Super().Size)
	return e == api.OK
}

// inOneRun answers pointers as they would be if all were in one run, wherever that is.
func inOneRun(pointers []int) []int {
	list := slices.Clone(pointers)
	for k, i := range places(pointers, lies) {
		list[i] = api.AtData + k
	}
	return list
}

// lies: does a pointer lead to a block?
func lies(p int) bool { return p != 0 }
