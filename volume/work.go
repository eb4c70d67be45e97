package volume

import "drydock/api"

// failure is the error that a call's work is given up with.
type failure api.Errno

// do does a call's work on the image, and commits what it has changed there. Work
// that is given up has changed nothing.
func (v *Volume) do(work func()) (e api.Errno) {
	if v == nil {
		return api.ErrArg
	}
	// Of no blocks a commit writes nothing: it tells whether the power is gone.
	if e := v.journal.Commit(); e != api.OK {
		return e
	}
	defer func() {
		r := recover()
		if f, ok := r.(failure); ok {
			e = api.Errno(f)
			v.image.Undo()
		} else if r != nil {
			panic(r)
		}
	}()
	work()
	need(v.journal.Commit(v.image.Changes()...))
	v.image.Settle()
	return api.OK
}

// refuse gives the work up with an error, where it may not be done.
func refuse(not bool, e api.Errno) {
	if not {
		panic(failure(e))
	}
}

// need gives the work up with an error, if there is one.
func need(e api.Errno) {
	refuse(e != api.OK, e)
}

// must gives the work up likewise, where there is an answer beside the error.
func must[T any](x T, e api.Errno) T {
	need(e)
	return x
}
