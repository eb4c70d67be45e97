package move

import (
	"slices"

	"drydock/api"
	"drydock/extent"
	"drydock/flags"
	"drydock/image"
)

// worker does the jobs' steps on a volume's image, on which nothing was done
// ahead of the step.
type worker struct {
	*image.Image
}

// thing is a node, its number, and the blocks that it has.
type thing struct {
	api.Node
	number        int
	pointers, own []int
}

// steps says by job how a step of it is done, and whether it was the last one.
func steps() map[int]func(*worker) (bool, api.Errno) {
	return map[int]func(*worker) (bool, api.Errno){
		api.JobMigrate: (*worker).migrate,
		api.JobShrink:  (*worker).shrink,
		api.JobGather:  (*worker).gather,
	}
}

func (w *worker) thing(n int) (thing, api.Errno) {
	x, pointers, own, e := w.Node(n)
	return thing{x, n, pointers, own}, e
}

// such answers the nodes from a number on that are such ones.
func (w *worker) such(from int, is func(x thing) bool) ([]thing, api.Errno) {
	var list []thing
	for n := from; n < api.MaxNodes; n++ {
		x, e := w.thing(n)
		if e != api.OK {
			return nil, e
		}
		if is(x) {
			list = append(list, x)
		}
	}
	return list, api.OK
}

// carry lays what a node's pointers at some places lead to into other blocks, in
// one run, if there is one.
func (w *worker) carry(x thing, places []int) api.Errno {
	fresh, e := w.Take(len(places))
	if e != api.OK {
		return e
	}
	pointers := slices.Clone(x.pointers)
	for k, i := range places {
		b, e := w.Data(pointers[i])
		if e != api.OK {
			return e
		}
		if e := w.SetData(fresh[k], b); e != api.OK {
			return e
		}
		pointers[i] = fresh[k]
	}
	return w.Store(x.number, x.Node, pointers)
}

// pass puts Cursor behind a node.
func (w *worker) pass(x thing) api.Errno {
	s := w.Super()
	s.Cursor = x.number + 1
	return w.SetSuper(s)
}

// end ends the job.
func (w *worker) end(format int) api.Errno {
	return w.SetSuper(api.Super{Size: w.Super().Size, Format: format})
}

// places are those of pointers that are such ones.
func places(pointers []int, is func(p int) bool) []int {
	var list []int
	for i, p := range pointers {
		if is(p) {
			list = append(list, i)
		}
	}
	return list
}

// pieces answers how many extents pointers are.
func pieces(pointers []int) int {
	list, _ := extent.From(pointers)
	return len(list)
}

// flagsIn answers the map of flags among a volume's blocks.
func flagsIn(blocks [][]byte) []byte {
	return blocks[api.AtFlags][:api.MaxBlocks/8]
}

// used answers how many of a volume's blocks, from one on, have their flags up.
func used(blocks [][]byte, from int) int {
	all, _ := flags.Count(flagsIn(blocks), api.MaxBlocks)
	ahead, _ := flags.Count(flagsIn(blocks), from)
	return all - ahead
}
