package super

import (
	"bytes"
	"math"
	"testing"

	"drydock/api"
	"drydock/spin"
)

// sealed is a block of these bytes, 0 behind them, and the check sum.
func sealed(first ...byte) []byte {
	b := make([]byte, api.Block)
	copy(b, first)
	sum := spin.Sum(b[:60])
	b[60], b[61], b[62], b[63] = byte(sum), byte(sum>>8), byte(sum>>16), byte(sum>>24)
	return b
}

// superBlock is laid byte by byte, by the document's words; what does not fit its bytes is cut off.
func superBlock(s api.Super) []byte {
	return sealed('D', 'R', 'Y', 'D', byte(s.Size), byte(s.Size>>8), byte(s.Format), byte(s.Job), byte(s.Cursor), 0, byte(s.Goal), byte(s.Goal>>8))
}

func headBlock(h api.Head) []byte {
	return sealed('H', 'E', 'A', 'D', byte(h.At), 0, 0, 0, byte(h.Seq), byte(h.Seq>>8), byte(h.Seq>>16), byte(h.Seq>>24))
}

func someSuper() api.Super { return api.Super{Size: 300, Format: 3, Job: 1, Cursor: 17, Goal: 0x123} }

func someHead() api.Head { return api.Head{At: 39, Seq: 0x12345678} }

// ints are numbers round all ends of what is sound, those that look sound when they are cut to fewer bytes, and the ends of what an int is.
func ints() []int {
	return []int{
		math.MinInt, math.MinInt + 1, math.MinInt32, -1 << 16, -256, -255, -1, 0, 1, 2, 3, 4, 31, 32, 33, 38, 39, 40, 41,
		62, 63, 64, 65, 128, 254, 255, 256, 257, 258, 259, 320, 478, 479, 480, 481, 511, 512,
		65535, 65536, 65537, 65536 + 64, 65536 + 480, 1<<24 - 1, 1 << 24, 1<<30 - 1, 1 << 30, 1<<30 + 1,
		math.MaxInt32, 1 << 31, math.MaxUint32, 1 << 32, 1<<32 + 1, 1<<32 + 64, 1 << 62, math.MaxInt - 1, math.MaxInt,
	}
}

// noBlocks have not Block bytes; the sound blocks lie at their beginning, as far as they go.
func noBlocks() [][]byte {
	list := [][]byte{nil, {}, {0}}
	for _, b := range [][]byte{superBlock(someSuper()), headBlock(someHead())} {
		list = append(list, b[:1], b[:12], b[:60], b[:63], b[:63:63], append(bytes.Clone(b), 0), append(bytes.Clone(b), b...), append([]byte{0}, b...))
	}
	return list
}

func encodes(t *testing.T, s api.Super, want []byte) {
	t.Helper()
	if b, e := Encode(s); e != api.OK || !bytes.Equal(b, want) {
		t.Fatalf("Encode(%v): %v %d, not %v", s, b, e, want)
	}
	if got, e := Decode(want); e != api.OK || got != s {
		t.Fatalf("Decode(%v): %v %d, not %v", want, got, e, s)
	}
}

func putsHead(t *testing.T, h api.Head, want []byte) {
	t.Helper()
	if b, e := PutHead(h); e != api.OK || !bytes.Equal(b, want) {
		t.Fatalf("PutHead(%v): %v %d, not %v", h, b, e, want)
	}
	if got, e := GetHead(want); e != api.OK || got != h {
		t.Fatalf("GetHead(%v): %v %d, not %v", want, got, e, h)
	}
}

// encodesNot sees that the error stands alone, as those below it do.
func encodesNot(t *testing.T, s api.Super) {
	t.Helper()
	if b, e := Encode(s); e != api.ErrForm || b != nil {
		t.Fatalf("Encode(%v): %v %d", s, b, e)
	}
}

func putsNoHead(t *testing.T, h api.Head) {
	t.Helper()
	if b, e := PutHead(h); e != api.ErrForm || b != nil {
		t.Fatalf("PutHead(%v): %v %d", h, b, e)
	}
}

func decodesNot(t *testing.T, b []byte) {
	t.Helper()
	if s, e := Decode(b); e != api.ErrForm || s != (api.Super{}) {
		t.Fatalf("Decode(%v): %v %d", b, s, e)
	}
}

func getsNoHead(t *testing.T, b []byte) {
	t.Helper()
	if h, e := GetHead(b); e != api.ErrForm || h != (api.Head{}) {
		t.Fatalf("GetHead(%v): %v %d", b, h, e)
	}
}

// P8.1: blocks written out, check sums too.
func TestBlocks(t *testing.T) {
	b := make([]byte, api.Block)
	copy(b, []byte{'D', 'R', 'Y', 'D', 44, 1, 3, 1, 17, 0, 35, 1})
	copy(b[60:], []byte{120, 148, 163, 131})
	encodes(t, someSuper(), b)
	b = make([]byte, api.Block)
	copy(b, []byte{'H', 'E', 'A', 'D', 39, 0, 0, 0, 0x78, 0x56, 0x34, 0x12})
	copy(b[60:], []byte{165, 78, 213, 186})
	putsHead(t, someHead(), b)
}

// soundSize and those below say it by the document's words.
func soundSize(n int) bool   { return n >= 64 && n <= 480 }
func soundFormat(n int) bool { return n == 1 || n == 2 || n == 3 }
func soundJob(n int) bool    { return n == 0 || n == 1 || n == 2 || n == 3 }
func soundCursor(n int) bool { return n >= 0 && n <= 32 }
func soundGoal(n int) bool   { return n >= 0 && n <= 480 }
func soundAt(n int) bool     { return n >= 0 && n <= 39 }
func soundSeq(n int) bool    { return n >= 1 && n <= 1073741824 }

// P8.1: each field goes by itself, at its ends and beyond them, whatever the others are.
func TestSuperFields(t *testing.T) {
	others := []api.Super{someSuper(), {Size: 64, Format: 1}, {Size: 480, Format: 3, Job: 3, Cursor: 32, Goal: 480}}
	for _, f := range []struct {
		field func(s *api.Super) *int
		sound func(n int) bool
	}{
		{func(s *api.Super) *int { return &s.Size }, soundSize},
		{func(s *api.Super) *int { return &s.Format }, soundFormat},
		{func(s *api.Super) *int { return &s.Job }, soundJob},
		{func(s *api.Super) *int { return &s.Cursor }, soundCursor},
		{func(s *api.Super) *int { return &s.Goal }, soundGoal},
	} {
		for _, s := range others {
			for _, n := range ints() {
				*f.field(&s) = n
				if f.sound(n) {
					encodes(t, s, superBlock(s))
				} else {
					encodesNot(t, s)
				}
			}
		}
	}
}

// P8.1
func TestHeadFields(t *testing.T) {
	for _, at := range ints() {
		for _, seq := range ints() {
			h := api.Head{At: at, Seq: seq}
			if soundAt(at) && soundSeq(seq) {
				putsHead(t, h, headBlock(h))
			} else {
				putsNoHead(t, h)
			}
		}
	}
	putsNoHead(t, api.Head{})
	encodesNot(t, api.Super{})
}

// P8.1: every sound number of each field, beside others that change along.
func TestAllSoundNumbers(t *testing.T) {
	for size := 64; size <= 480; size++ {
		for format := 1; format <= 3; format++ {
			for job := range 4 {
				s := api.Super{Size: size, Format: format, Job: job, Cursor: (size + job) % 33, Goal: (size*7 + format) % 481}
				encodes(t, s, superBlock(s))
			}
		}
	}
	for goal := range 481 {
		s := api.Super{Size: 480 - goal%417, Format: 2, Cursor: goal % 33, Goal: goal}
		encodes(t, s, superBlock(s))
	}
	for at := range 40 {
		for bit := range 31 {
			for _, seq := range []int{1 << bit, 1<<30 - bit, 1<<bit | 1} {
				h := api.Head{At: at, Seq: min(seq, 1<<30)}
				putsHead(t, h, headBlock(h))
			}
		}
	}
}

// P8.1: a block of what is not sound is refused, though its check sum is right.
func TestBlocksOfWhatIsNotSound(t *testing.T) {
	for n := range 1 << 16 {
		for _, s := range []api.Super{{Size: n, Format: 1}, {Size: 64, Format: 1, Goal: n}} {
			if soundSize(s.Size) && soundGoal(s.Goal) {
				encodes(t, s, superBlock(s))
			} else {
				decodesNot(t, superBlock(s))
			}
		}
	}
	for n := range 256 {
		for _, s := range []api.Super{{Size: 64, Format: n}, {Size: 64, Format: 1, Job: n}, {Size: 64, Format: 1, Cursor: n}} {
			if soundFormat(s.Format) && soundJob(s.Job) && soundCursor(s.Cursor) {
				encodes(t, s, superBlock(s))
			} else {
				decodesNot(t, superBlock(s))
			}
		}
		for _, seq := range []int{0, 1, 1 << 30, 1<<30 + 1, math.MaxInt32, 1 << 31, math.MaxUint32} {
			h := api.Head{At: n, Seq: seq}
			if soundAt(n) && soundSeq(seq) {
				putsHead(t, h, headBlock(h))
			} else {
				getsNoHead(t, headBlock(h))
			}
		}
	}
}

// P8.1: the text, and all bytes that are 0, are looked at, though the check sum is right.
func TestBlocksOfOtherBytes(t *testing.T) {
	for at := range 60 {
		for x := range 256 {
			if at < 4 || at == 9 || at >= 12 {
				b := superBlock(someSuper())
				if b[at] != byte(x) {
					b[at] = byte(x)
					decodesNot(t, sealed(b[:60]...))
				}
			}
			if at < 4 || at >= 5 && at < 8 || at >= 12 {
				b := headBlock(someHead())
				if b[at] != byte(x) {
					b[at] = byte(x)
					getsNoHead(t, sealed(b[:60]...))
				}
			}
		}
	}
}

// P8.1: no bit may be turned, those of the check sum neither.
func TestTurnedBits(t *testing.T) {
	for at := range api.Block {
		for bit := range 8 {
			b := superBlock(someSuper())
			b[at] ^= 1 << bit
			decodesNot(t, b)
			b = headBlock(someHead())
			b[at] ^= 1 << bit
			getsNoHead(t, b)
		}
	}
}

// P8.1, R1: what is no block at all, and a block of the other kind.
func TestNoBlocks(t *testing.T) {
	for _, b := range noBlocks() {
		decodesNot(t, b)
		getsNoHead(t, b)
	}
	for _, b := range [][]byte{make([]byte, api.Block), sealed(), bytes.Repeat([]byte{255}, api.Block), sealed(bytes.Repeat([]byte{255}, 60)...), sealed([]byte("DRYD")...), sealed([]byte("HEAD")...)} {
		decodesNot(t, b)
		getsNoHead(t, b)
	}
	decodesNot(t, headBlock(someHead()))
	getsNoHead(t, superBlock(someSuper()))
	decodesNot(t, headBlock(api.Head{At: 1, Seq: 1}))
	getsNoHead(t, superBlock(api.Super{Size: 64, Format: 1}))
}

// P8.1, R4: what is handed in is left as it is, and what is answered is new memory, spare room included.
func TestMemory(t *testing.T) {
	for _, c := range []struct {
		block []byte
		write func() ([]byte, api.Errno)
		read  func(b []byte) api.Errno
	}{
		{superBlock(someSuper()), func() ([]byte, api.Errno) { return Encode(someSuper()) }, func(b []byte) api.Errno { _, e := Decode(b); return e }},
		{headBlock(someHead()), func() ([]byte, api.Errno) { return PutHead(someHead()) }, func(b []byte) api.Errno { _, e := GetHead(b); return e }},
	} {
		room := append(bytes.Clone(c.block), 1, 2, 3)
		kept := bytes.Clone(room)
		if e := c.read(room[:api.Block]); e != api.OK || !bytes.Equal(room, kept) {
			t.Errorf("%v became %v, %d", kept, room, e)
		}
		first, _ := c.write()
		second, _ := c.write()
		clear(first[:cap(first)])
		third, _ := c.write()
		if !bytes.Equal(second, c.block) || !bytes.Equal(third, c.block) {
			t.Errorf("%v and %v share memory", second, third)
		}
	}
}
