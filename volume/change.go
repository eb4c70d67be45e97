package volume

import (
	"drydock/api"
	"drydock/image"
)

// Change does what a layer above makes of the volume's image as a call's own work: it is
// committed at once, or, where that answers an error, undone. The image is not to be kept.
func (v *Volume) Change(work func(m *image.Image) api.Errno) api.Errno {
	return v.do(func() { need(work(v.image)) })
}

// Room: how many blocks the disk has.
func (v *Volume) Room() int {
	if v == nil {
		return 0
	}
	return v.disk.Blocks()
}

// Behind: the disk's blocks behind the volume's, up to a size.
func (v *Volume) Behind(size int) ([][]byte, api.Errno) {
	if v == nil {
		return nil, api.ErrArg
	}
	var list [][]byte
	// The journal reads them: it keeps it if the power is gone.
	for n := v.Super().Size; n < size; n++ {
		b, e := v.journal.Read(n)
		if e != api.OK {
			return nil, e
		}
		list = append(list, b)
	}
	return list, api.OK
}
