package volume

import (
	"slices"

	"drydock/api"
	"drydock/node"
)

// thing is a node, its number, and the blocks that it has.
type thing struct {
	api.Node
	number        int
	pointers, own []int
}

func (v *Volume) thing(n int) thing {
	x, pointers, own, e := v.image.Node(n)
	need(e)
	return thing{x, n, pointers, own}
}

// store keeps a node as it is now. One that is no other is left alone: its map
// might be laid elsewhere without need.
func (v *Volume) store(x thing) {
	y := v.thing(x.number)
	if !node.Same(x.Node, y.Node) || !slices.Equal(x.pointers, y.pointers) {
		need(v.image.Store(x.number, x.Node, x.pointers))
	}
}

func (x thing) stat() api.Stat {
	blocks := len(x.own)
	for _, p := range x.pointers {
		if p != 0 {
			blocks++
		}
	}
	return api.Stat{Node: x.number, Kind: x.Kind, Format: x.Format, Links: x.Links, Size: x.Size, Blocks: blocks}
}
