package image

import (
	"slices"
	"strconv"

	"drydock/api"
	"drydock/chain"
	"drydock/extent"
	"drydock/field"
	"drydock/node"
	"drydock/super"
	"drydock/tree"
)

const (
	halfSize = api.Block / 2
	flagSize = api.MaxBlocks / 8
)

// block is an array, so that a clone of a list of blocks shares none with it.
type block [api.Block]byte

// state is what may be undone: a volume's blocks, and what lies where they
// belong. Blocks that came behind lie there already, whatever lay there when
// the volume was settled; so what lies there is kept apart from that.
type state struct {
	blocks, lying []block
}

// must is for what can't fail, since it was seen to ahead of that: if it did all the
// same, the blocks would not be what they are taken for, and no answer would be right.
func must[T any](x T, e api.Errno) T {
	if e != api.OK {
		panic("image: error " + strconv.Itoa(int(e)) + " cannot be")
	}
	return x
}

func within(n, least, most int) bool {
	return n >= least && n <= most
}

// arrays answers the blocks, if all are as long as blocks are.
func arrays(list [][]byte) ([]block, bool) {
	var blocks []block
	for _, b := range list {
		if len(b) != api.Block {
			return nil, false
		}
		blocks = append(blocks, block(b))
	}
	return blocks, true
}

// sound: is all that must asks for later on there in these blocks?
func sound(blocks []block) bool {
	if len(blocks) < api.MinBlocks {
		return false
	}
	if x, e := super.Decode(blocks[api.AtSuper][:]); e != api.OK || x.Size != len(blocks) {
		return false
	}
	if _, e := super.GetHead(blocks[api.AtHead][:]); e != api.OK {
		return false
	}
	if !field.Sealed(blocks[api.AtFlags][:]) {
		return false
	}
	s := state{blocks: blocks}
	for n := range api.MaxNodes {
		if _, e := node.Decode(s.half(n)); e != api.OK {
			return false
		}
	}
	return true
}

func (s *state) put(at int, b []byte) {
	s.blocks[at] = block(b)
}

func (s *state) super() api.Super {
	return must(super.Decode(s.blocks[api.AtSuper][:]))
}

// setSuper has only sound ones handed to it, as setNode has.
func (s *state) setSuper(x api.Super) {
	s.put(api.AtSuper, must(super.Encode(x)))
}

func (s *state) node(n int) api.Node {
	return must(node.Decode(s.half(n)))
}

func (s *state) setNode(n int, x api.Node) {
	copy(s.half(n), must(node.Encode(x)))
}

// half is a piece of the blocks themselves, where a node stands.
func (s *state) half(n int) []byte {
	at := n % 2 * halfSize
	return s.blocks[api.AtNodes+n/2][at : at+halfSize]
}

// flags is a piece of the blocks themselves, too.
func (s *state) flags() []byte {
	return s.blocks[api.AtFlags][:flagSize]
}

func (s *state) setFlags(f []byte) {
	var b block
	copy(b[:], f)
	s.put(api.AtFlags, must(field.Seal(b[:])))
}

// resize has as many blocks handed to it as come.
func (s *state) resize(size int, come []block) {
	kept := min(size, len(s.blocks))
	s.blocks = slices.Concat(s.blocks[:kept], come)
	s.lying = slices.Concat(s.lying[:kept], come)
	x := s.super()
	x.Size = size
	s.setSuper(x)
}

// absent: does this number name a block that is not there? 0 names none.
func (s *state) absent(n int) bool {
	return n >= len(s.blocks)
}

// elsewhere: is it no data block that is there?
func (s *state) elsewhere(n int) bool {
	return n < api.AtData || s.absent(n)
}

// end is where the blocks end that may be taken: while the volume is made
// smaller, those that are to go are none of them.
func (s *state) end() int {
	x := s.super()
	if x.Job != api.JobShrink {
		return x.Size
	}
	return max(api.AtData, min(x.Size, x.Goal))
}

// may: are these pointers that this node may have?
func (s *state) may(x api.Node, pointers []int) bool {
	if x.Kind == api.Free {
		return len(pointers) == 0
	}
	// Need says what are pointers, and so it is said but once, where chapter 11 has it.
	_, e := tree.Need(pointers)
	return e == api.OK && !slices.ContainsFunc(pointers, s.absent)
}

// read answers what a node's map names; a Free one has none.
func (s *state) read(x api.Node) (pointers, own []int, e api.Errno) {
	switch x.Format {
	case api.Old:
		return tree.Read(x, s.data())
	case api.New:
		list, own, e := chain.Read(x, s.data())
		if e != api.OK {
			return nil, nil, e
		}
		return must(extent.To(list)), own, api.OK
	}
	return nil, nil, api.OK
}

// data are the blocks themselves that maps may lie in: they are read alone.
func (s *state) data() []api.Write {
	var list []api.Write
	for n := api.AtData; n < len(s.blocks); n++ {
		list = append(list, api.Write{At: n, Data: s.blocks[n][:]})
	}
	return list
}

// need answers how many blocks of its own a map of pointers has; that of a Free node has none.
func need(format int, pointers []int) int {
	switch format {
	case api.Old:
		return must(tree.Need(pointers))
	case api.New:
		return must(chain.Need(len(must(extent.From(pointers)))))
	}
	return 0
}

// plan has as many fresh blocks handed to it as are needed, none of them among the pointers.
func plan(format int, pointers, fresh []int) (x api.Node, blocks []api.Write) {
	e := api.OK
	switch format {
	case api.Old:
		x, blocks, e = tree.Plan(pointers, fresh)
	case api.New:
		x, blocks, e = chain.Plan(must(extent.From(pointers)), fresh)
	}
	return must(x, e), blocks
}
