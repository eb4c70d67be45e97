package volume

import (
	"math"
	"testing"

	"drydock/api"
	"drydock/image"
)

// What a layer above does on the image is one call: it lasts, or nothing is changed.
func TestChange(t *testing.T) {
	w := some(t, 80, 2)
	name := func(n int) func(m *image.Image) api.Errno {
		return func(m *image.Image) api.Errno {
			block := taken(t, m, n)[0]
			return m.Store(9, api.Node{Kind: 1, Format: 2, Links: 1, Size: 64}, []int{block})
		}
	}
	before := w.v.Blocks()
	// The node has no name, but the blocks are those that were made.
	if e := w.v.Change(name(1)); e != api.OK || same(before, w.v.Blocks()) {
		t.Fatalf("Change: %d", e)
	}
	looked := all(t, w.d)
	if !same(told(looked[:80]), told(w.v.Blocks())) {
		t.Error("the blocks are not those that lie there")
	}
	before = w.v.Blocks()
	for _, want := range []api.Errno{api.ErrNone, api.ErrSpace, api.ErrPower} {
		e := w.v.Change(func(m *image.Image) api.Errno {
			name(2)(m)
			return want
		})
		if e != want || !same(before, w.v.Blocks()) || !same(looked, all(t, w.d)) {
			t.Errorf("Change: %d, not %d, or there is another block", e, want)
		}
	}
	if e := w.v.Change(func(m *image.Image) api.Errno { return api.OK }); e != api.OK || !same(looked, all(t, w.d)) {
		t.Errorf("Change of nothing: %d", e)
	}
	w.d.Fail(1)
	if e := w.v.Change(name(3)); e != api.ErrPower || !same(before, w.v.Blocks()) {
		t.Errorf("Change without power: %d", e)
	}
	w.d.Restart()
	done := 0
	if e := w.v.Change(func(m *image.Image) api.Errno { done++; return api.OK }); e != api.ErrPower || done != 0 {
		t.Errorf("Change behind that: %d, done %d times", e, done)
	}
}

// What a layer above is told of the disk behind the volume.
func TestBehind(t *testing.T) {
	w := some(t, 80, 1)
	d := newDisk(t, 100)
	lay(t, d, w.v.Blocks())
	for n := 80; n < 100; n++ {
		if e := d.Put(api.Write{At: n, Data: filled(64, n)}); e != api.OK {
			t.Fatalf("Put: %d", e)
		}
	}
	v := mounted(t, d)
	if v.Room() != 100 {
		t.Errorf("Room: %d", v.Room())
	}
	for _, size := range []int{math.MinInt, -1, 0, 79, 80, 81, 99, 100} {
		list, e := v.Behind(size)
		if e != api.OK || len(list) != max(80, size)-80 || !same(list, all(t, d)[80:80+len(list)]) {
			t.Errorf("Behind(%d): %d blocks, %d", size, len(list), e)
		}
	}
	if list, e := v.Behind(101); list != nil || e != api.ErrRange {
		t.Errorf("Behind(101): %v %d", list, e)
	}
	d.Fail(0)
	d.Barrier()
	if list, e := v.Behind(81); list != nil || e != api.ErrPower {
		t.Errorf("Behind without power: %v %d", list, e)
	}
	d.Restart()
	dark(t, v)
	for _, v := range []*Volume{nil, {}} {
		list, e := v.Behind(81)
		f := v.Change(func(m *image.Image) api.Errno { panic("done") })
		if v.Room() != 0 || list != nil || e != api.ErrArg || f != api.ErrArg {
			t.Errorf("no volume: %d, %v %d, %d", v.Room(), list, e, f)
		}
	}
}
