package disk

import (
	"bytes"
	"math"
	"slices"
	"testing"

	"drydock/api"
)

// filled is a block that tells its number in its first bytes, and is of one byte else.
func filled(n int) []byte {
	b := bytes.Repeat([]byte{byte(n)}, api.Block)
	b[0], b[1], b[2] = byte(n>>16), byte(n>>8), byte(n)
	return b
}

func write(at, n int) api.Write { return api.Write{At: at, Data: filled(n)} }

// made is a disk with power.
func made(t *testing.T, blocks int) *Disk {
	t.Helper()
	d, e := New(blocks)
	if d == nil || e != api.OK {
		t.Fatalf("New(%d): %v, %d", blocks, d, e)
	}
	return d
}

func put(t *testing.T, d *Disk, want api.Errno, list ...api.Write) {
	t.Helper()
	if e := d.Put(list...); e != want {
		t.Fatalf("Put: %d, not %d", e, want)
	}
}

func barrier(t *testing.T, d *Disk, want api.Errno) {
	t.Helper()
	if e := d.Barrier(); e != want {
		t.Fatalf("Barrier: %d, not %d", e, want)
	}
}

func holds(t *testing.T, d *Disk, n int, want []byte) {
	t.Helper()
	if b, e := d.Get(n); !bytes.Equal(b, want) || e != api.OK {
		t.Fatalf("Get(%d): %v, %d, not %v", n, b, e, want)
	}
}

// refuses sees that Get answers an error, and nothing beside it.
func refuses(t *testing.T, d *Disk, n int, want api.Errno) {
	t.Helper()
	if b, e := d.Get(n); b != nil || e != want {
		t.Fatalf("Get(%d): %v, %d, not %d", n, b, e, want)
	}
}

func opens(t *testing.T, d *Disk, n, want int) {
	t.Helper()
	if k := d.Open(n); k != want {
		t.Fatalf("Open(%d): %d, not %d", n, k, want)
	}
}

// dark sees that the power is gone: no call that asks for it goes.
func dark(t *testing.T, d *Disk) {
	t.Helper()
	for _, n := range []int{0, d.Blocks() - 1, d.Blocks(), -1, math.MinInt, math.MaxInt} {
		refuses(t, d, n, api.ErrPower)
	}
	put(t, d, api.ErrPower)
	put(t, d, api.ErrPower, write(0, 9))
	put(t, d, api.ErrPower, write(-1, 9))
	put(t, d, api.ErrPower, api.Write{})
	barrier(t, d, api.ErrPower)
}

// numbers answers the same numbers each time.
func numbers(seed uint32) func(below int) int {
	return func(below int) int {
		seed = seed*1664525 + 1013904223
		return int(seed>>8) % below
	}
}

// noBlocks are numbers of no block of a disk of so many.
func noBlocks(blocks int) []int {
	return []int{math.MinInt, math.MinInt + 1, math.MinInt32, -1 << 32, -blocks, -1, blocks, blocks + 1, math.MaxInt32, 1 << 32, math.MaxInt - 1, math.MaxInt}
}

// P7.1
func TestNew(t *testing.T) {
	zero := make([]byte, api.Block)
	for blocks := 1; blocks <= api.MaxBlocks; blocks++ {
		d := made(t, blocks)
		if n := d.Blocks(); n != blocks {
			t.Fatalf("Blocks of %d: %d", blocks, n)
		}
		for n := range blocks {
			holds(t, d, n, zero)
			opens(t, d, n, 0)
		}
		refuses(t, d, blocks, api.ErrRange)
		barrier(t, d, api.OK)
		put(t, d, api.OK, write(blocks-1, 7))
		holds(t, d, blocks-1, filled(7))
	}
}

// P7.1
func TestNewOfWrongNumbers(t *testing.T) {
	for _, blocks := range []int{math.MinInt, math.MinInt32, -1 << 32, -api.MaxBlocks, -1, 0, api.MaxBlocks + 1, 1 << 16, math.MaxInt32, 1<<32 + 1, math.MaxInt} {
		if d, e := New(blocks); d != nil || e != api.ErrArg {
			t.Errorf("New(%d): %v, %d", blocks, d, e)
		}
	}
}

// P7.2: a block is as it was put last, within one call too.
func TestPutAndGet(t *testing.T) {
	d := made(t, 5)
	put(t, d, api.OK, write(0, 1), write(4, 2), write(2, 3), write(4, 4))
	put(t, d, api.OK, write(2, 5))
	for n, want := range [][]byte{filled(1), make([]byte, api.Block), filled(5), make([]byte, api.Block), filled(4)} {
		holds(t, d, n, want)
	}
	for n, want := range []int{1, 0, 2, 0, 2} {
		opens(t, d, n, want)
	}
	barrier(t, d, api.OK)
	for n := range 5 {
		opens(t, d, n, 0)
	}
	holds(t, d, 4, filled(4))
	put(t, d, api.OK, write(4, 6))
	holds(t, d, 4, filled(6))
	opens(t, d, 4, 1)
	d.Restart()
	for n, want := range [][]byte{filled(1), make([]byte, api.Block), filled(5), make([]byte, api.Block), filled(4)} {
		holds(t, d, n, want)
		opens(t, d, n, 0)
	}
}

// P7.2, P7.3: no block, wherever its number lies.
func TestNoBlock(t *testing.T) {
	for _, blocks := range []int{1, 5, api.MaxBlocks} {
		d := made(t, blocks)
		put(t, d, api.OK, write(0, 1), write(blocks-1, 2))
		for _, n := range noBlocks(blocks) {
			refuses(t, d, n, api.ErrRange)
			opens(t, d, n, 0)
			put(t, d, api.ErrRange, write(n, 3))
			put(t, d, api.ErrRange, write(0, 4), write(n, 5))
			put(t, d, api.ErrRange, write(n, 6), write(0, 7))
		}
		holds(t, d, blocks-1, filled(2))
		if blocks > 1 {
			holds(t, d, 0, filled(1))
			opens(t, d, 0, 1)
		}
	}
}

// P7.2: Data of a wrong length comes ahead of no block, whichever write it is of, and neither puts anything nor brings the power nearer to its end.
func TestPutOfWrongData(t *testing.T) {
	d := made(t, 3)
	put(t, d, api.OK, write(1, 1))
	d.Fail(1)
	for _, data := range [][]byte{nil, {}, {1}, make([]byte, api.Block-1), make([]byte, api.Block+1), make([]byte, 2*api.Block), make([]byte, api.Block, 2*api.Block)[:api.Block-1]} {
		bad := api.Write{At: 1, Data: data}
		put(t, d, api.ErrArg, bad)
		put(t, d, api.ErrArg, write(0, 2), write(1, 3), bad)
		put(t, d, api.ErrArg, bad, write(1, 4))
		put(t, d, api.ErrArg, write(-1, 5), bad)
		put(t, d, api.ErrArg, write(3, 5), write(math.MaxInt, 6), bad)
		put(t, d, api.ErrArg, bad, write(3, 5))
		for _, n := range noBlocks(3) {
			put(t, d, api.ErrArg, api.Write{At: n, Data: data})
			put(t, d, api.ErrRange, write(1, 7), write(n, 8), write(2, 9))
		}
	}
	for n, want := range []int{0, 1, 0} {
		opens(t, d, n, want)
	}
	holds(t, d, 1, filled(1))
	put(t, d, api.OK, write(2, 8))
	put(t, d, api.ErrPower, write(2, 9))
	dark(t, d)
}

// P7.2: a call of no writes puts nothing, and the power does not go with it.
func TestPutOfNothing(t *testing.T) {
	d := made(t, 2)
	d.Fail(0)
	put(t, d, api.OK)
	put(t, d, api.OK, []api.Write{}...)
	holds(t, d, 0, make([]byte, api.Block))
	opens(t, d, 0, 0)
	barrier(t, d, api.ErrPower)
	dark(t, d)
}

// P7.3: behind so many blocks and barriers the power goes, with the next one, in the middle of a call too.
func TestFail(t *testing.T) {
	const blocks = 4
	for after := range 9 {
		// The steps are three blocks in one call, a barrier, a block, a barrier, two blocks, a barrier.
		d := made(t, blocks)
		d.Fail(after)
		step, gone := 0, false
		for _, list := range [][]int{{0, 1, 1}, nil, {2}, nil, {0, 3}, nil} {
			if gone {
				break
			}
			steps := max(1, len(list))
			want := api.OK
			if step+steps > after {
				want, gone = api.ErrPower, true
			}
			if list == nil {
				barrier(t, d, want)
				step++
				continue
			}
			var writes []api.Write
			for i, at := range list {
				writes = append(writes, write(at, 10+step+i))
			}
			before := []int{d.Open(0), d.Open(1), d.Open(2), d.Open(3)}
			put(t, d, want, writes...)
			for _, at := range list[:min(len(list), after-step)] {
				before[at]++
			}
			for n := range blocks {
				opens(t, d, n, before[n])
			}
			step += steps
		}
		if !gone {
			t.Fatalf("Fail(%d): the power is there", after)
		}
		dark(t, d)
		if n := d.Blocks(); n != blocks {
			t.Fatalf("Blocks without power: %d", n)
		}
	}
}

// P7.2: those put ahead of the loss are put, and open; this one and those behind are not.
func TestLossInTheMiddle(t *testing.T) {
	d := made(t, 4)
	put(t, d, api.OK, write(2, 1))
	d.Fail(2)
	put(t, d, api.ErrPower, write(0, 2), write(2, 3), write(2, 4), write(3, 5), write(0, 6))
	for n, want := range []int{1, 0, 2, 0} {
		opens(t, d, n, want)
	}
	dark(t, d)
	d.Restart(9, 9, 9, 9)
	zero := make([]byte, api.Block)
	for n, want := range [][]byte{filled(2), zero, filled(3), zero} {
		holds(t, d, n, want)
	}
}

// P7.2: a barrier with which the power goes makes nothing last.
func TestLossAtBarrier(t *testing.T) {
	d := made(t, 2)
	put(t, d, api.OK, write(0, 1))
	barrier(t, d, api.OK)
	put(t, d, api.OK, write(0, 2), write(1, 3))
	d.Fail(0)
	barrier(t, d, api.ErrPower)
	opens(t, d, 0, 1)
	opens(t, d, 1, 1)
	dark(t, d)
	d.Restart()
	holds(t, d, 0, filled(1))
	holds(t, d, 1, make([]byte, api.Block))
}

// P7.3: the newest Fail holds; below 0 the power never has to go.
func TestFailAgain(t *testing.T) {
	for _, never := range []int{-1, -2, math.MinInt32, -1 << 32, math.MinInt + 1, math.MinInt} {
		d := made(t, 2)
		d.Fail(0)
		d.Fail(never)
		for i := range 40 {
			put(t, d, api.OK, write(i%2, i), write(i%2, i+1))
			barrier(t, d, api.OK)
		}
	}
	for _, late := range []int{41, math.MaxInt32, 1 << 32, math.MaxInt} {
		d := made(t, 1)
		d.Fail(2)
		d.Fail(late)
		for i := range 41 {
			put(t, d, api.OK, write(0, i))
		}
	}
	d := made(t, 1)
	d.Fail(5)
	put(t, d, api.OK, write(0, 1), write(0, 2))
	d.Fail(1)
	put(t, d, api.OK, write(0, 3))
	put(t, d, api.ErrPower, write(0, 4))
	opens(t, d, 0, 3)
}

// P7.3: what is only asked does not bring the power nearer to its end.
func TestAskingIsNoStep(t *testing.T) {
	d := made(t, 2)
	d.Fail(1)
	for range 5 {
		d.Blocks()
		holds(t, d, 0, make([]byte, api.Block))
		refuses(t, d, 2, api.ErrRange)
		opens(t, d, 0, 0)
	}
	barrier(t, d, api.OK)
	holds(t, d, 0, make([]byte, api.Block))
	barrier(t, d, api.ErrPower)
}

// P7.3: the power is gone till Restart, whatever Fail is told; and behind it it has not to go.
func TestGoneTillRestart(t *testing.T) {
	for _, after := range []int{math.MinInt, -1, 0, 1, 5, math.MaxInt} {
		d := made(t, 1)
		d.Fail(0)
		barrier(t, d, api.ErrPower)
		d.Fail(after)
		dark(t, d)
		d.Restart()
		for i := range 20 {
			put(t, d, api.OK, write(0, i))
			barrier(t, d, api.OK)
		}
	}
	d := made(t, 1)
	d.Fail(3)
	put(t, d, api.OK, write(0, 1))
	d.Restart()
	for i := range 20 {
		put(t, d, api.OK, write(0, i))
	}
}

// P7.3: the first so many open writes of each block last.
func TestRestart(t *testing.T) {
	for _, c := range []struct{ open, keep, last int }{
		{0, 0, 0}, {0, 1, 0}, {0, -1, 0}, {0, math.MaxInt, 0},
		{1, 0, 0}, {1, 1, 1}, {1, 2, 1}, {1, -1, 0},
		{3, 0, 0}, {3, 1, 1}, {3, 2, 2}, {3, 3, 3}, {3, 4, 3}, {3, math.MaxInt, 3}, {3, math.MaxInt - 1, 3}, {3, 1 << 32, 3}, {3, -1, 0}, {3, -3, 0}, {3, math.MinInt, 0}, {3, -1<<32 + 2, 0},
	} {
		for _, gone := range []bool{false, true} {
			for at := range 3 {
				d := made(t, 3)
				put(t, d, api.OK, write(0, 100), write(1, 100), write(2, 100))
				barrier(t, d, api.OK)
				for i := range c.open {
					put(t, d, api.OK, write(at, 101+i))
				}
				if gone {
					d.Fail(0)
					barrier(t, d, api.ErrPower)
				}
				keep := []int{7, 7, 7}
				keep[at] = c.keep
				d.Restart(keep...)
				for n := range 3 {
					want := filled(100)
					if n == at {
						want = filled(100 + c.last)
					}
					holds(t, d, n, want)
					opens(t, d, n, 0)
				}
				// What lasts is no open write any more: a second loss takes nothing.
				d.Restart()
				holds(t, d, at, filled(100+c.last))
			}
		}
	}
}

// P7.3: keep may be shorter than the disk, and longer.
func TestRestartOfSome(t *testing.T) {
	for _, keep := range [][]int{nil, {}, {1}, {1, 2}, {0, 0, 1}, {-1, 1, 2, 5}, {2, 2, 2, 2, 2, 2}} {
		d := made(t, 4)
		for n := range 4 {
			put(t, d, api.OK, write(n, 10), write(n, 11))
		}
		old := slices.Clone(keep)
		d.Restart(keep...)
		if !slices.Equal(keep, old) {
			t.Fatalf("Restart changed %v to %v", old, keep)
		}
		for n := range 4 {
			want := make([]byte, api.Block)
			if n < len(keep) && keep[n] > 0 {
				want = filled(9 + min(keep[n], 2))
			}
			holds(t, d, n, want)
		}
	}
}

// P7.3: any number of writes may be open, of one block too.
func TestManyOpen(t *testing.T) {
	const many = 5000
	for _, keep := range []int{1, 2, many/2 + 1, many - 1, many, many + 1} {
		d := made(t, 2)
		var list []api.Write
		for i := range many {
			list = append(list, write(1, i+1))
		}
		put(t, d, api.OK, list...)
		opens(t, d, 1, many)
		holds(t, d, 1, filled(many))
		d.Restart(0, keep)
		holds(t, d, 1, filled(min(keep, many)))
		opens(t, d, 1, 0)
	}
}

// model keeps the whole history, and works each answer out from it.
type model struct {
	blocks int
	done   []api.Write // what lasts, in order
	open   []api.Write
	steps  int // how many more go well; below 0: all
	gone   bool
}

func (m *model) step() bool {
	m.gone = m.steps == 0
	if m.steps > 0 {
		m.steps--
	}
	return !m.gone
}

func (m *model) get(n int) []byte {
	b := make([]byte, api.Block)
	for _, w := range slices.Concat(m.done, m.open) {
		if w.At == n {
			b = w.Data
		}
	}
	return b
}

func (m *model) put(list []api.Write) api.Errno {
	for _, w := range list {
		if m.gone || !m.step() {
			return api.ErrPower
		}
		m.open = append(m.open, w)
	}
	return m.power()
}

func (m *model) barrier() api.Errno {
	if !m.gone && m.step() {
		m.done, m.open = append(m.done, m.open...), nil
	}
	return m.power()
}

func (m *model) restart(keep []int) {
	seen := make([]int, m.blocks)
	for _, w := range m.open {
		if w.At < len(keep) && seen[w.At] < keep[w.At] {
			m.done = append(m.done, w)
		}
		seen[w.At]++
	}
	m.open, m.steps, m.gone = nil, -1, false
}

func (m *model) power() api.Errno {
	if m.gone {
		return api.ErrPower
	}
	return api.OK
}

func (m *model) check(t *testing.T, d *Disk) {
	t.Helper()
	if k := d.Blocks(); k != m.blocks {
		t.Fatalf("Blocks: %d, not %d", k, m.blocks)
	}
	for n := range m.blocks {
		open := 0
		for _, w := range m.open {
			if w.At == n {
				open++
			}
		}
		opens(t, d, n, open)
		if m.gone {
			refuses(t, d, n, api.ErrPower)
		} else {
			holds(t, d, n, m.get(n))
		}
	}
}

// P7.1 to P7.3, R5: what a disk answers hangs on all calls that were made of it, and on those alone.
func TestAgainstHistory(t *testing.T) {
	for seed := range 60 {
		next := numbers(uint32(seed))
		blocks := 1 + next(6)
		d, m := made(t, blocks), &model{blocks: blocks, steps: -1}
		other := made(t, blocks)
		for i := range 150 {
			switch next(8) {
			case 0:
				after := next(12) - 2
				d.Fail(after)
				m.steps = max(after, -1)
			case 1:
				var keep []int
				for range next(blocks + 3) {
					keep = append(keep, next(6)-1)
				}
				d.Restart(keep...)
				m.restart(keep)
			case 2:
				barrier(t, d, m.barrier())
			default:
				var list []api.Write
				for j := range next(6) {
					list = append(list, write(next(blocks), 6*i+j+1))
				}
				put(t, d, m.put(list), list...)
			}
			m.check(t, d)
		}
		for n := range blocks {
			holds(t, other, n, make([]byte, api.Block))
			opens(t, other, n, 0)
		}
	}
}

// R4: what is put is not changed, spare room included, and not kept.
func TestWhatIsPutIsNotKept(t *testing.T) {
	d := made(t, 3)
	wide := append(filled(1), bytes.Repeat([]byte{0xA5}, 16)...)
	data := wide[:api.Block]
	list := append(make([]api.Write, 0, 4), api.Write{At: 0, Data: data}, api.Write{At: 1, Data: data})
	put(t, d, api.OK, list...)
	if !bytes.Equal(wide[:api.Block], filled(1)) || !bytes.Equal(wide[api.Block:], bytes.Repeat([]byte{0xA5}, 16)) {
		t.Fatal("Put changed what was handed in")
	}
	if len(list) != 2 || list[0].At != 0 || list[1].At != 1 || list[:4][2].Data != nil || list[:4][3].Data != nil {
		t.Fatal("Put changed the list that was handed in")
	}
	clear(wide)
	clear(list[:4])
	holds(t, d, 0, filled(1))
	holds(t, d, 1, filled(1))
	copy(data, filled(2))
	put(t, d, api.OK, api.Write{At: 0, Data: data})
	clear(data)
	holds(t, d, 0, filled(2))
	barrier(t, d, api.OK)
	holds(t, d, 0, filled(2))
	holds(t, d, 1, filled(1))
}

// R4: an answer is new memory, spare room included, of open blocks and of lasting ones.
func TestAnswersAreNew(t *testing.T) {
	d := made(t, 2)
	put(t, d, api.OK, write(0, 1), write(0, 2))
	for range 3 {
		for n, want := range [][]byte{filled(2), make([]byte, api.Block)} {
			a, _ := d.Get(n)
			b, _ := d.Get(n)
			room := a[:cap(a)]
			for i := range room {
				room[i] = 0xEE
			}
			if !bytes.Equal(b, want) {
				t.Fatal("two answers share memory")
			}
			holds(t, d, n, want)
		}
		opens(t, d, 1, 0)
	}
	d.Restart(1)
	b, _ := d.Get(0)
	clear(b[:cap(b)])
	holds(t, d, 0, filled(1))
	barrier(t, d, api.OK)
	holds(t, d, 0, filled(1))
}

// R4: a block that is got and put elsewhere does not tie the two together.
func TestCopies(t *testing.T) {
	d := made(t, 2)
	put(t, d, api.OK, write(0, 1))
	b, _ := d.Get(0)
	put(t, d, api.OK, api.Write{At: 1, Data: b}, api.Write{At: 0, Data: b})
	put(t, d, api.OK, write(1, 2))
	b[5] = 0xEE
	holds(t, d, 0, filled(1))
	holds(t, d, 1, filled(2))
	d.Restart(2, 1)
	holds(t, d, 0, filled(1))
	holds(t, d, 1, filled(1))
}

// R1: a nil Disk answers ErrArg, and 0, to any arguments.
func TestNilDisk(t *testing.T) {
	var d *Disk
	for range 2 {
		if n := d.Blocks(); n != 0 {
			t.Errorf("Blocks: %d", n)
		}
		for _, n := range append(noBlocks(1), 0) {
			refuses(t, d, n, api.ErrArg)
			opens(t, d, n, 0)
			put(t, d, api.ErrArg, write(n, 1))
			d.Fail(n)
			d.Restart(n)
		}
		put(t, d, api.ErrArg)
		put(t, d, api.ErrArg, api.Write{})
		barrier(t, d, api.ErrArg)
		d.Restart()
		d.Restart(nil...)
	}
}

// R1: a Disk that New did not make has no blocks, but power.
func TestZeroDisk(t *testing.T) {
	d := &Disk{}
	if n := d.Blocks(); n != 0 {
		t.Errorf("Blocks: %d", n)
	}
	for _, n := range append(noBlocks(1), 0) {
		refuses(t, d, n, api.ErrRange)
		opens(t, d, n, 0)
		put(t, d, api.ErrRange, write(n, 1))
	}
	put(t, d, api.OK)
	barrier(t, d, api.OK)
	d.Fail(0)
	barrier(t, d, api.ErrPower)
	d.Restart(1, 2)
	barrier(t, d, api.OK)
}
