package check

import (
	"slices"

	"drydock/api"
	"drydock/entry"
	"drydock/flags"
	"drydock/image"
)

// told is what a volume tells of a node.
type told struct {
	api.Node
	pointers, own []int
}

// walker goes through a volume from node 0 on, and counts how many names lead
// to each node, and how often each block is a pointer or an own block.
type walker struct {
	*image.Image
	nodes [api.MaxNodes]told
	named [api.MaxNodes]int
	uses  [api.MaxBlocks]int
}

// walked answers a walker that has gone through blocks, if these are sound.
func walked(blocks [][]byte) (*walker, api.Errno) {
	m, e := image.Open(blocks)
	if e != api.OK {
		return nil, e
	}
	w := &walker{Image: m}
	// The root is named by no entry: that it is the root counts as its one name,
	// so that each directory has to have one.
	if !soundJob(w.Super()) || !w.read() || !w.name(0) || !w.soundNodes() || !w.soundFlags() {
		return nil, api.ErrForm
	}
	return w, api.OK
}

// soundJob: do job, format, cursor and goal go together?
func soundJob(s api.Super) bool {
	mixed := s.Format == api.Mixed
	switch s.Job {
	case api.JobNone:
		return !mixed && s.Cursor == 0 && s.Goal == 0
	case api.JobMigrate:
		return mixed && s.Goal == 0
	case api.JobShrink:
		return !mixed && s.Goal >= api.MinBlocks && s.Goal < s.Size
	case api.JobGather:
		return !mixed && s.Goal == 0
	}
	return false
}

// read goes through all nodes, those too that no name leads to: can they be read?
func (w *walker) read() bool {
	for n := range w.nodes {
		x, pointers, own, e := w.Node(n)
		if e != api.OK {
			return false
		}
		w.nodes[n] = told{x, pointers, own}
		w.count(pointers)
		w.count(own)
	}
	return true
}

// count has numbers of blocks that are there; a 0 is none.
func (w *walker) count(list []int) {
	for _, n := range list {
		if n != 0 {
			w.uses[n]++
		}
	}
}

// name counts a name of a node. Only the first one is followed: so the walk ends
// even where directories name each other in a ring.
func (w *walker) name(n int) bool {
	w.named[n]++
	return w.named[n] > 1 || w.walk(w.nodes[n])
}

// walk goes through a node, and on to all that it names: are these sound, each by itself?
func (w *walker) walk(x told) bool {
	switch x.Kind {
	case api.File:
		return w.soundFile(x)
	case api.Dir:
		return w.walkDir(x)
	}
	return true
}

// soundFile: does a file reach into its last block, with nothing behind it there?
func (w *walker) soundFile(x told) bool {
	last := len(x.pointers) - 1
	if last < 0 {
		return true
	}
	reach := x.Size - api.Block*last
	if reach <= 0 {
		return false
	}
	b, e := w.Data(x.pointers[last])
	return e == api.OK && !slices.ContainsFunc(b[min(reach, len(b)):], notZero)
}

func notZero(x byte) bool {
	return x != 0
}

// walkDir: is a directory sound, and all that it names?
func (w *walker) walkDir(x told) bool {
	if x.Size != api.Block*len(x.pointers) {
		return false
	}
	names := map[string]int{}
	for _, block := range x.pointers {
		list, e := w.entries(block)
		if e != api.OK {
			return false
		}
		for _, y := range list {
			if _, there := names[y.Name]; there || !w.name(y.Node) {
				return false
			}
			names[y.Name] = y.Node
		}
	}
	return true
}

// entries answers what stands in a directory's block; a pointer that is 0 leads to none.
func (w *walker) entries(block int) ([]api.Entry, api.Errno) {
	b, e := w.Data(block)
	if e != api.OK {
		return nil, e
	}
	return entry.Decode(b)
}

// soundNodes: does the walk fit what the nodes tell of themselves?
func (w *walker) soundNodes() bool {
	for n, x := range w.nodes {
		if !w.soundNode(n, x) {
			return false
		}
	}
	return true
}

func (w *walker) soundNode(n int, x told) bool {
	format := w.Super().Format
	switch {
	case x.Kind == api.Free:
		// Else a node that is made here later would have a name more than it was given.
		return w.named[n] == 0
	case format != api.Mixed && x.Format != format:
		return false
	case x.Kind == api.Dir:
		return x.Links == 1 && w.named[n] == 1
	}
	return n != 0 && x.Links == w.named[n]
}

// soundFlags: is no block needed twice, and are the flags up of just those that are needed?
func (w *walker) soundFlags() bool {
	f := w.Blocks()[api.AtFlags][:api.MaxBlocks/8]
	for n, uses := range w.uses {
		up, e := flags.Up(f, n)
		if e != api.OK || up != w.needs(n) || uses > 1 {
			return false
		}
	}
	return true
}

func (w *walker) needs(n int) bool {
	return n < api.AtData || w.uses[n] > 0
}
