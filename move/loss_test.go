package move

import (
	"fmt"
	"testing"

	"drydock/api"
	"drydock/check"
	"drydock/volume"
)

// dark holds that each call of a volume answers ErrPower, whatever it is given.
func dark(t *testing.T, v *volume.Volume) {
	t.Helper()
	for _, n := range append(ends(), 0, 1, 2, 3, 64, 120, 121, 300, 480, 481) {
		if e := Grow(v, n); e != api.ErrPower {
			t.Fatalf("Grow(%d): %d", n, e)
		}
		for _, goal := range []int{-1, 0, 64, 110} {
			if e := Start(v, n, goal); e != api.ErrPower {
				t.Fatalf("Start(%d, %d): %d", n, goal, e)
			}
		}
	}
	if last, e := Step(v); last || e != api.ErrPower {
		t.Fatalf("Step: %v %d", last, e)
	}
	for _, at := range []string{"", "/", "/a", "/none"} {
		if n, e := Pieces(v, at); n != 0 || e != api.ErrPower {
			t.Fatalf("Pieces(%q): %d %d", at, n, e)
		}
		if _, e := v.Stat(at); e != api.ErrPower {
			t.Fatalf("Stat(%q): %d", at, e)
		}
	}
}

// keeps says of each block how many writes last: none, all, or any.
func keeps(r func(n int) int, choice int) []int {
	list := make([]int, 480)
	for n := range list {
		list[n] = []int{0, 99, r(3), r(2)}[choice]
	}
	return list
}

// restart brings the power back, and mounts; now and then the power goes while that is done.
func (w *world) restart(t *testing.T, r func(n int) int, choice int) {
	t.Helper()
	w.d.Restart(keeps(r, choice)...)
	for r(3) == 0 {
		w.d.Fail(r(30))
		v, e := volume.Mount(w.d)
		if e != api.OK && (e != api.ErrPower || v != nil) {
			t.Fatalf("Mount: %v %d", v, e)
		}
		w.d.Restart(keeps(r, r(4))...)
	}
	w.v = mounted(t, w.d)
}

// losses does work on a world again and again, the power going at each of its steps: it is done then, or not, and
// the job that goes on can be ended.
func (w *world) losses(t *testing.T, what string, work func(v *volume.Volume) api.Errno, r func(n int) int) {
	t.Helper()
	x := w.again(t)
	if e := work(x.v); e != api.OK {
		t.Fatalf("%s: %d", what, e)
	}
	was, done := told(w.v.Blocks()), told(x.v.Blocks())
	var seen [2]int
	for after := 0; ; after++ {
		x := w.again(t)
		left := Left(x.v)
		x.d.Fail(after)
		e := work(x.v)
		if e != api.OK && (e != api.ErrPower || !same(told(x.v.Blocks()), was) || Left(x.v) != left) {
			t.Fatalf("%s, power %d: %d", what, after, e)
		}
		if e != api.OK {
			dark(t, x.v)
		}
		v := x.v
		x.restart(t, r, (after+r(2))%4)
		is := told(x.v.Blocks())
		switch {
		case same(is, done):
			seen[1]++
		case same(is, was) && e != api.OK:
			seen[0]++
		default:
			t.Fatalf("%s, power %d: neither done nor not", what, after)
		}
		x.lies(t, what)
		if e != api.OK {
			dark(t, v)
		}
		if r(8) == 0 && x.v.Super().Job != 0 {
			x.finish(t)
			x.holds(t)
		}
		if e == api.OK && after > 3 {
			break
		}
	}
	if seen[0] < 3 || seen[1] < 2 {
		t.Errorf("%s: %v", what, seen)
	}
}

// P4, P5, P20, P20.5: each call that is cut off is done, or not, and the job goes on.
func TestLoss(t *testing.T) {
	for format := 1; format <= 2; format++ {
		for job := 1; job <= 3; job++ {
			if job == 1 && format == 2 {
				continue
			}
			r := numbers(10*format + job)
			w := some(t, 200, 120, format)
			goal := 0
			if job == 2 {
				w.losses(t, "Grow", func(v *volume.Volume) api.Errno { return Grow(v, 190) }, r)
				w.grows(t, 180)
				w.creates(t, "/x", "/y")
				w.fills(t, 0, 36, 1, "/x", "/y")
				w.does(t, call{verb: "unlink", path: "/x"})
				used, _ := check.Used(w.v.Blocks())
				goal = len(used) + 17
			}
			w.losses(t, fmt.Sprint("Start ", job), func(v *volume.Volume) api.Errno { return Start(v, job, goal) }, r)
			w.starts(t, job, goal)
			n := 0
			for last := false; !last; n++ {
				w.losses(t, fmt.Sprint("Step of ", w.v.Super()), func(v *volume.Volume) api.Errno {
					_, e := Step(v)
					return e
				}, r)
				last, _ = w.step(t)
			}
			if n < 3 {
				t.Errorf("job %d: %d steps", job, n)
			}
			w.holds(t)
		}
	}
}

// P20: the power is gone, but no call of the volume has answered so: the errors that are told first are answered.
func TestUnseenLoss(t *testing.T) {
	w := some(t, 200, 120, 1)
	used, _ := check.Used(w.v.Blocks())
	w.starts(t, 2, len(used)+16)
	gone := func(w *world) *world {
		x := w.again(t)
		x.d.Fail(0)
		if e := x.d.Barrier(); e != api.ErrPower {
			t.Fatalf("Barrier: %d", e)
		}
		return x
	}
	x := gone(w)
	if e := Grow(x.v, 201); e != api.ErrArg {
		t.Errorf("Grow(201): %d", e)
	}
	if e := Grow(x.v, 130); e != api.ErrBusy {
		t.Errorf("Grow(130): %d", e)
	}
	if e := Start(x.v, 1, 0); e != api.ErrBusy {
		t.Errorf("Start: %d", e)
	}
	if last, e := Step(x.v); last || e != api.ErrPower {
		t.Errorf("Step: %v %d", last, e)
	}
	dark(t, x.v)
	x = gone(some(t, 200, 120, 1))
	if last, e := Step(x.v); last || e != api.ErrNone {
		t.Errorf("Step: %v %d", last, e)
	}
	if e := Grow(x.v, 130); e != api.ErrPower {
		t.Errorf("Grow(130): %d", e)
	}
	dark(t, x.v)
}

// P4, P5, P20.5: long rows of calls, of steps, and of losses.
func TestRowsOfLosses(t *testing.T) {
	for seed := range 8 {
		r := numbers(seed + 50)
		w := begin(t, 250, 180, 1+seed%2)
		for range 40 {
			if r(3) > 0 {
				w.d.Fail(r(200))
			}
			for k := 0; k < 25; k++ {
				e := api.OK
				switch r(6) {
				case 0, 1:
					e = w.steps(t, r)
				case 2:
					e = w.changes(t, r)
				default:
					e = w.calls(t, anyCall(r), r)
				}
				if e == api.ErrPower {
					break
				}
			}
			w.d.Restart()
			w.v = mounted(t, w.d)
			w.lies(t, "Restart")
			w.holds(t)
		}
	}
}

// calls makes a call; if that is cut off, the twin does what was done.
func (w *world) calls(t *testing.T, c call, r func(n int) int) api.Errno {
	t.Helper()
	free := w.v.Free()
	a := c.on(w.v)
	switch {
	case a.e == api.ErrSpace && free < 16:
	case a.e == api.ErrPower:
		w.restart(t, r, r(4))
		if picture(w.v) != picture(w.twin) {
			c.on(w.twin)
			w.holds(t)
		}
	default:
		if b := c.on(w.twin); a.unlike(b) {
			t.Fatalf("%v: %v, not %v", c, a, b)
		}
	}
	return a.e
}

// steps does a step; if that is cut off, there is as much left as was, or less.
func (w *world) steps(t *testing.T, r func(n int) int) api.Errno {
	t.Helper()
	s, left, free := w.v.Super(), Left(w.v), w.v.Free()
	last, e := Step(w.v)
	if e == api.ErrPower {
		w.restart(t, r, r(4))
		if now := w.v.Super(); Left(w.v) > left || Left(w.v) > 0 && (now.Job != s.Job || now.Goal != s.Goal || now.Cursor < s.Cursor) {
			t.Fatalf("%v, %d left; %v, %d left", s, left, now, Left(w.v))
		}
	} else if e != api.OK && (e != api.ErrNone || s.Job != 0) && (e != api.ErrSpace || free >= 16) {
		t.Fatalf("Step: %v %d, %v", last, e, s)
	}
	return e
}

// changes begins a job, or makes a volume greater.
func (w *world) changes(t *testing.T, r func(n int) int) api.Errno {
	t.Helper()
	s := w.v.Super()
	want := s
	e := api.OK
	if size := s.Size + 1 + r(20); r(2) == 0 && size <= 250 && s.Job != 2 {
		want.Size = size
		e = Grow(w.v, size)
	} else if job := 2 + r(2); s.Job == 0 {
		goal := (3 - job) * (s.Size - 1 - r(60))
		used, _ := check.Used(w.v.Blocks())
		if job == 2 && goal < len(used)+16 {
			return api.OK
		}
		want.Job, want.Goal = job, goal
		e = Start(w.v, job, goal)
	}
	if e == api.ErrPower {
		w.restart(t, r, r(4))
	}
	if now := w.v.Super(); e != api.OK && e != api.ErrPower || now != want && (e == api.OK || now != s) {
		t.Fatalf("%v is %v, not %v: %d", s, now, want, e)
	}
	return e
}
