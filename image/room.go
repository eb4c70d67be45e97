package image

import (
	"slices"

	"drydock/api"
	"drydock/choose"
	"drydock/flags"
	"drydock/run"
)

// mark answers flags with those of all blocks of some lists up, or down: a 0 there is no block.
func mark(f []byte, up bool, lists ...[]int) []byte {
	var runs []complex128
	for _, n := range slices.Concat(lists...) {
		if n != 0 {
			runs = append(runs, must(run.Of(n, 1)))
		}
	}
	return must(flags.Mark(f, up, runs...))
}

// free answers how many data blocks ahead of an end have their flags down.
func free(f []byte, end int) int {
	up := must(flags.Count(f, end)) - must(flags.Count(f, api.AtData))
	return end - api.AtData - up
}

// choice answers blocks for a node's map: of its own ones ahead of others, and
// of both only such as are free now.
func choice(f []byte, own []int, count, end int) ([]int, api.Errno) {
	kept := slices.DeleteFunc(slices.Clone(own), func(n int) bool {
		return n >= end || must(flags.Up(f, n))
	})
	kept = kept[:min(count, len(kept))]
	others, e := pick(mark(f, true, kept), count-len(kept), end)
	if e != api.OK {
		return nil, e
	}
	return slices.Concat(kept, others), api.OK
}

// pick answers so many blocks whose flags are down, one run of them if there is one.
func pick(f []byte, count, end int) ([]int, api.Errno) {
	if count > free(f, end) {
		return nil, api.ErrSpace
	}
	if count == 0 {
		return nil, api.OK
	}
	// The shortest run that is long enough leaves the longer ones whole.
	r, e := choose.Tight(f, count, api.AtData, end)
	if e == api.OK {
		return blocksOf(r), api.OK
	}
	return blocksOf(must(choose.Some(f, count, api.AtData, end))...), api.OK
}

func blocksOf(runs ...complex128) []int {
	var list []int
	for _, r := range runs {
		first, count, e := run.Parts(r)
		for i := range must(count, e) {
			list = append(list, first+i)
		}
	}
	return list
}
