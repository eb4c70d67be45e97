package volume

import (
	"fmt"
	"testing"

	"drydock/api"
)

// dark holds that each call of a volume answers ErrPower, whatever it is given.
func dark(t *testing.T, v *Volume) {
	t.Helper()
	for _, at := range []string{"", "/", "/a", "/d", "/none/x"} {
		for _, c := range oneOfEach(at) {
			if a := c.on(v); a.unlike(answer{e: api.ErrPower}) {
				t.Fatalf("%v: %v", c, a)
			}
		}
	}
	for _, c := range []call{{verb: "write", path: "/a"}, {verb: "rename", path: "/a", other: "/a"}, {verb: "read", path: "/a", n: -1}} {
		if a := c.on(v); a.unlike(answer{e: api.ErrPower}) {
			t.Fatalf("%v: %v", c, a)
		}
	}
}

// keeps says of each block how many writes last: none, all, or any.
func keeps(r func(n int) int, choice int) []int {
	list := make([]int, 480)
	for n := range list {
		list[n] = []int{0, 99, r(3), r(2)}[choice]
	}
	return list
}

// restart brings the power back, and mounts; now and then the power goes while that is done.
func (w *world) restart(t *testing.T, r func(n int) int, choice int) {
	t.Helper()
	w.d.Restart(keeps(r, choice)...)
	for r(3) == 0 {
		w.d.Fail(r(30))
		v, e := Mount(w.d)
		if e != api.OK && (e != api.ErrPower || v != nil) {
			t.Fatalf("Mount: %v %d", v, e)
		}
		w.d.Restart(keeps(r, r(4))...)
	}
	w.v = mounted(t, w.d)
}

// settles takes the model that a volume holds what is in: the next one only, if that has to last. It tells whether
// it is the next one.
func (w *world) settles(t *testing.T, what any, next *model, lasts bool) bool {
	t.Helper()
	s := next.differs(w.v)
	if s == "" {
		w.m = next
		return true
	}
	if lasts {
		t.Fatalf("%v was OK: %s", what, s)
	}
	if was := w.m.differs(w.v); was != "" {
		t.Fatalf("%v: %s; and %s", what, s, was)
	}
	return false
}

// losses makes a call on a world again and again, the power going at each of its steps.
func (w *world) losses(t *testing.T, c call, r func(n int) int) {
	t.Helper()
	next := w.m.clone()
	next.do(c)
	var seen [2]int
	for after := 0; ; after++ {
		for choice := range 4 {
			x := w.again(t)
			before := x.v.Blocks()
			x.d.Fail(after)
			a := c.on(x.v)
			if a.e == api.OK {
				x.restart(t, r, choice)
				x.settles(t, c, next, true)
				if choice == 3 && (seen[0] == 0 || seen[1] == 0) {
					t.Errorf("%v: %v", c, seen)
				}
				if choice == 3 {
					return
				}
				continue
			}
			if a.unlike(answer{e: api.ErrPower}) || !same(before, x.v.Blocks()) {
				t.Fatalf("%v: %v", c, a)
			}
			dark(t, x.v)
			v := x.v
			x.restart(t, r, choice)
			if x.settles(t, c, next, false) {
				seen[1]++
			} else {
				seen[0]++
			}
			dark(t, v)
		}
	}
}

// P4, P19.2: a call that is cut off is done, or not.
func TestLoss(t *testing.T) {
	for format := 1; format <= 2; format++ {
		r := numbers(uint32(format))
		w := some(t, 80, format)
		w.does(t, call{verb: "create", path: "/g"})
		for _, c := range []call{
			{verb: "create", path: "/d/e/g"}, {verb: "mkdir", path: "/x"}, {verb: "link", path: "/a", other: "/y"}, {verb: "unlink", path: "/d/b"},
			{verb: "unlink", path: "/d/c"}, {verb: "unlink", path: "/d/e/f"}, {verb: "rename", path: "/d/b", other: "/d/z"}, {verb: "rename", path: "/d/e", other: "/e"},
			{verb: "write", path: "/a", n: 30, data: filled(256, 5)}, {verb: "write", path: "/d/c", n: 2000, data: filled(100, 6)}, {verb: "truncate", path: "/d/c", n: 65}, {verb: "truncate", path: "/a", n: 1000},
		} {
			w.losses(t, c, r)
		}
	}
}

// P4, P5: long rows of calls, and of losses; a mounted volume goes on from what was there.
func TestRowsOfLosses(t *testing.T) {
	for seed := range 8 {
		r := numbers(uint32(seed + 7))
		w := begin(t, []int{80, 200}[seed%2], 1+seed/2%2)
		for range 40 {
			if r(3) > 0 {
				w.d.Fail(r(150))
			}
			for k := range 20 {
				c := w.m.anyCall(r)
				next := w.m.clone()
				want := next.do(c)
				free := w.v.Free()
				a := c.on(w.v)
				if a.e == api.ErrSpace && free < 16 {
					continue
				}
				if a.e == api.ErrPower || k == 19 {
					w.restart(t, r, r(4))
					w.settles(t, c, next, a.e == api.OK)
					break
				}
				if a.unlike(want) {
					t.Fatalf("%v: %v, not %v", c, a, want)
				}
				w.m = next
			}
			w.lies(t, fmt.Sprint("seed ", seed))
		}
		w.holds(t)
	}
}
