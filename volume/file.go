package volume

import "drydock/api"

// maxSize is how many bytes a file may have.
const maxSize = api.MaxFile * api.Block

// block answers what is in a file's block; where none lies that are bytes 0.
func (v *Volume) block(x thing, i int) []byte {
	if i >= len(x.pointers) || x.pointers[i] == 0 {
		return make([]byte, api.Block)
	}
	return must(v.image.Data(x.pointers[i]))
}

// read answers a file's bytes, at most n.
func (v *Volume) read(x thing, at, n int) []byte {
	b := make([]byte, max(0, min(n, x.Size-at)))
	for done := 0; done < len(b); {
		i, skip := (at+done)/api.Block, (at+done)%api.Block
		done += copy(b[done:], v.block(x, i)[skip:])
	}
	return b
}

// write lays bytes into a file; there is at least one.
func (v *Volume) write(x thing, at int, b []byte) {
	end := at + len(b)
	x.pointers = v.filled(x, at/api.Block, (end-1)/api.Block)
	for done := 0; done < len(b); {
		i, skip := (at+done)/api.Block, (at+done)%api.Block
		block := v.block(x, i)
		done += copy(block[skip:], b[done:])
		need(v.image.SetData(x.pointers[i], block))
	}
	x.Size = max(x.Size, end)
	v.store(x)
}

// filled answers a file's pointers with a block at each place from first to last: those
// that are new have bytes 0.
func (v *Volume) filled(x thing, first, last int) []int {
	pointers := append(x.pointers, make([]int, max(0, last+1-len(x.pointers)))...)
	var holes []int
	for i := first; i <= last; i++ {
		if pointers[i] == 0 {
			holes = append(holes, i)
		}
	}
	for k, p := range must(v.image.Take(len(holes))) {
		pointers[holes[k]] = p
		need(v.image.SetData(p, make([]byte, api.Block)))
	}
	return pointers
}

// truncate makes a file so long.
func (v *Volume) truncate(x thing, size int) {
	count := (size + api.Block - 1) / api.Block
	if count <= len(x.pointers) {
		x.pointers = x.pointers[:count]
		v.clearRest(x, size)
	}
	x.Size = size
	v.store(x)
}

// clearRest clears what is behind a size in the file's block where that ends: it is not to
// be there again when the file grows.
func (v *Volume) clearRest(x thing, size int) {
	i, rest := size/api.Block, size%api.Block
	if rest == 0 || x.pointers[i] == 0 {
		return
	}
	b := v.block(x, i)
	clear(b[rest:])
	need(v.image.SetData(x.pointers[i], b))
}
