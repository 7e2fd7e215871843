package phys_test

import (
	"bytes"
	"math"
	"slices"
	"testing"

	"warder/api"
	"warder/phys"
)

const page = 256

// begin: a memory of so many frames.
func begin(t *testing.T, frames int) *phys.Mem {
	t.Helper()
	m, e := phys.New(frames)
	if e != api.OK || m == nil {
		t.Fatalf("New(%d): %v", frames, e)
	}
	return m
}

// pattern: bytes of which none is 0, and of which no two frames have the same row.
func pattern(n int) []byte {
	b := make([]byte, n)
	for i := range b {
		b[i] = byte(1 + (i%251+i/page*7)%255)
	}
	return b
}

// patterned: a memory of so many frames with the pattern's bytes, put there one by one, and these bytes.
func patterned(t *testing.T, frames int) (*phys.Mem, []byte) {
	t.Helper()
	m, b := begin(t, frames), pattern(frames*page)
	for i, x := range b {
		if !m.PutByte(uint32(i), x) {
			t.Fatalf("PutByte(%d) of %d frames", i, frames)
		}
	}
	return m, b
}

// holds: a memory has these bytes and no others, told by bytes, by words and by frames.
func holds(t *testing.T, m *phys.Mem, want []byte) {
	t.Helper()
	if m.Frames()*page != len(want) {
		t.Fatalf("%d frames, not %d", m.Frames(), len(want)/page)
	}
	for i, x := range want {
		if b, ok := m.Byte(uint32(i)); !ok || b != x {
			t.Fatalf("Byte(%d): %d %t, not %d", i, b, ok, x)
		}
	}
	for i := 0; i < len(want); i += 4 {
		x := uint32(want[i]) + uint32(want[i+1])<<8 + uint32(want[i+2])<<16 + uint32(want[i+3])<<24
		if w, ok := m.Word(uint32(i)); !ok || w != x {
			t.Fatalf("Word(%d): %#x %t, not %#x", i, w, ok, x)
		}
	}
	for n := range m.Frames() {
		if b, e := m.Frame(n); e != api.OK || !bytes.Equal(b, want[n*page:(n+1)*page]) {
			t.Fatalf("Frame(%d): % x %v", n, b, e)
		}
	}
}

// outside: addresses of which none stands in a memory of so many frames: just behind its end, far off, and near 2^32.
func outside(frames int) []uint32 {
	end := uint32(frames * page)
	list := []uint32{1 << 18, 1<<18 + 4, 1 << 24, 1<<31 - 4, 1 << 31, 1<<31 + 4, math.MaxUint32 - 255, math.MaxUint32 - 7}
	for i := range uint32(8) {
		list = append(list, end+i, math.MaxUint32-i)
	}
	return append(list, end+255, end+256, end+257)
}

// farFrames: numbers of frames that no memory has.
func farFrames(frames int) []int {
	return []int{frames, frames + 1, 1024, 1025, math.MaxInt32, 1 << 32, 1 << 56, math.MaxInt - 1, math.MaxInt, -1, -2, -frames, -256, math.MinInt32, math.MinInt + 1, math.MinInt}
}

// P4.1, New: 1 to 1,024 frames of noughts, and ErrRange and nil else.
func TestNew(t *testing.T) {
	for _, n := range []int{1, 2, 3, 255, 256, 1023, 1024} {
		holds(t, begin(t, n), make([]byte, n*page))
	}
	for _, n := range []int{0, -1, -2, -1024, math.MinInt, 1025, 1026, 1 << 20, 1 << 32, 1<<32 + 1, math.MaxInt - 1, math.MaxInt} {
		if m, e := phys.New(n); m != nil || e != api.ErrRange {
			t.Errorf("New(%d): %v", n, e)
		}
	}
}

// P4.1: two memories share nothing.
func TestNewApart(t *testing.T) {
	m, o := begin(t, 2), begin(t, 2)
	m.PutByte(300, 7)
	holds(t, o, make([]byte, 2*page))
}

// P4.1, the chapter's example: a word's lowest byte stands first.
func TestExample(t *testing.T) {
	m := begin(t, 1)
	if !m.PutWord(4, 0x01020304) {
		t.Error("PutWord(4)")
	}
	if b, ok := m.Byte(5); !ok || b != 3 {
		t.Errorf("Byte(5): %d %t", b, ok)
	}
	want := make([]byte, page)
	copy(want[4:], []byte{4, 3, 2, 1})
	holds(t, m, want)
}

// P4.1: every byte of a memory is put, the first and the last one among them, and each stands alone.
func TestPutByte(t *testing.T) {
	for _, frames := range []int{1, 2, 5, 1024} {
		m, b := patterned(t, frames)
		holds(t, m, b)
		last := frames*page - 1
		for _, i := range []int{0, 1, 255, last - 1, last} {
			if !m.PutByte(uint32(i), 0) {
				t.Fatalf("PutByte(%d) of %d frames", i, frames)
			}
			b[i] = 0
			holds(t, m, b)
		}
	}
}

// P4.1: every word of a memory is put, the first and the last one among them, and no byte beside its four.
func TestPutWord(t *testing.T) {
	for _, frames := range []int{1, 2, 5, 1024} {
		m, b := begin(t, frames), pattern(frames*page)
		for i := 0; i < len(b); i += 4 {
			w := uint32(b[i]) + uint32(b[i+1])<<8 + uint32(b[i+2])<<16 + uint32(b[i+3])<<24
			if !m.PutWord(uint32(i), w) {
				t.Fatalf("PutWord(%d) of %d frames", i, frames)
			}
		}
		holds(t, m, b)
		for _, i := range []int{0, 252, len(b) - 256, len(b) - 4} {
			if !m.PutWord(uint32(i), 0xff00807f) {
				t.Fatalf("PutWord(%d) of %d frames", i, frames)
			}
			copy(b[i:], []byte{0x7f, 0x80, 0, 0xff})
			holds(t, m, b)
		}
	}
}

// P4.1: where there is no byte, nothing is told and nothing is put.
func TestOutside(t *testing.T) {
	for _, frames := range []int{1, 2, 1024} {
		m, b := patterned(t, frames)
		for _, a := range outside(frames) {
			if x, ok := m.Byte(a); ok || x != 0 {
				t.Errorf("Byte(%d) of %d frames: %d %t", a, frames, x, ok)
			}
			if w, ok := m.Word(a); ok || w != 0 {
				t.Errorf("Word(%d) of %d frames: %d %t", a, frames, w, ok)
			}
			if m.PutByte(a, 0) {
				t.Errorf("PutByte(%d) of %d frames", a, frames)
			}
			if m.PutWord(a, 0) {
				t.Errorf("PutWord(%d) of %d frames", a, frames)
			}
		}
		holds(t, m, b)
	}
}

// P4.1: at an address that isn't 4 times something there is no word, neither within a frame nor over its end.
func TestOdd(t *testing.T) {
	m, b := patterned(t, 3)
	for i := range uint32(3 * page) {
		if i%4 == 0 {
			continue
		}
		if w, ok := m.Word(i); ok || w != 0 {
			t.Errorf("Word(%d): %#x %t", i, w, ok)
		}
		if m.PutWord(i, 0) {
			t.Errorf("PutWord(%d)", i)
		}
	}
	holds(t, m, b)
}

// P4.2, Frame: of frames that aren't there, nothing and ErrRange.
func TestFrameRange(t *testing.T) {
	for _, frames := range []int{1, 3, 1024} {
		m, b := patterned(t, frames)
		for _, n := range farFrames(frames) {
			if x, e := m.Frame(n); e != api.ErrRange || len(x) != 0 {
				t.Errorf("Frame(%d) of %d: % x %v", n, frames, x, e)
			}
		}
		holds(t, m, b)
	}
}

// P4.2, Fill: the bytes, and noughts behind them, in the first, a middle and the last frame; no other frame is changed.
func TestFill(t *testing.T) {
	for n := range 3 {
		for _, size := range []int{0, 1, 2, 3, 4, 5, 100, 254, 255, 256} {
			m, want := patterned(t, 3)
			b := bytes.Repeat([]byte{0xee}, size)
			if e := m.Fill(n, b); e != api.OK {
				t.Fatalf("Fill(%d) of %d bytes: %v", n, size, e)
			}
			clear(want[n*page : (n+1)*page])
			copy(want[n*page:], b)
			holds(t, m, want)
		}
	}
}

// P4.2, Fill: nil and no bytes are the same: a frame of noughts.
func TestFillNothing(t *testing.T) {
	for _, b := range [][]byte{nil, {}} {
		m, want := patterned(t, 2)
		if e := m.Fill(1, b); e != api.OK {
			t.Fatalf("Fill of nothing: %v", e)
		}
		clear(want[page:])
		holds(t, m, want)
	}
}

// P4.2, Fill: a refused one changes nothing; that there is no such frame is told first.
func TestFillRefused(t *testing.T) {
	m, want := patterned(t, 3)
	for _, n := range farFrames(3) {
		for _, size := range []int{0, 1, 256, 257, 1000} {
			if e := m.Fill(n, make([]byte, size)); e != api.ErrRange {
				t.Errorf("Fill(%d) of %d bytes: %v", n, size, e)
			}
		}
	}
	for n := range 3 {
		for _, size := range []int{257, 258, 512, 768, 1 << 20} {
			if e := m.Fill(n, make([]byte, size)); e != api.ErrMany {
				t.Errorf("Fill(%d) of %d bytes: %v", n, size, e)
			}
		}
	}
	holds(t, m, want)
}

// P4.2, Clone: the same bytes; each of both is changed without the other.
func TestClone(t *testing.T) {
	for _, frames := range []int{1, 3, 1024} {
		m, b := patterned(t, frames)
		c := m.Clone()
		holds(t, c, b)
		ofClone := bytes.Clone(b)
		last := len(b) - 1

		m.PutByte(0, 0)
		m.PutWord(uint32(last-3), 0)
		b[0] = 0
		clear(b[last-3:])
		holds(t, m, b)
		holds(t, c, ofClone)

		c.PutByte(uint32(last), 0xfe)
		c.PutWord(8, 0xfdfdfdfd)
		c.Fill(frames/2, []byte{0xfc})
		ofClone[last] = 0xfe
		copy(ofClone[8:], []byte{0xfd, 0xfd, 0xfd, 0xfd})
		clear(ofClone[frames/2*page : (frames/2+1)*page])
		ofClone[frames/2*page] = 0xfc
		holds(t, c, ofClone)
		holds(t, m, b)
	}
}

// P4.2, Clone: a clone of a clone stands alone, too, and is bounded as its memory is.
func TestCloneTwice(t *testing.T) {
	m, b := patterned(t, 2)
	c := m.Clone()
	d := c.Clone()
	c.Fill(0, nil)
	holds(t, m, b)
	holds(t, d, b)
	if d.PutByte(2*page, 1) || d.Fill(2, nil) != api.ErrRange {
		t.Error("a clone has more frames")
	}
}

// differs: both memories tell the same frames of each other.
func differs(t *testing.T, m, o *phys.Mem, want []int) {
	t.Helper()
	if x := m.Differ(o); !slices.Equal(x, want) {
		t.Errorf("Differ: %v, not %v", x, want)
	}
	if x := o.Differ(m); !slices.Equal(x, want) {
		t.Errorf("Differ, turned round: %v, not %v", x, want)
	}
}

// P4.2, Differ: no frame of equal memories, nor of a memory and itself.
func TestDifferEqual(t *testing.T) {
	for _, frames := range []int{1, 3, 1024} {
		m, _ := patterned(t, frames)
		o, _ := patterned(t, frames)
		differs(t, m, o, nil)
		differs(t, m, m, nil)
		differs(t, m, m.Clone(), nil)
		differs(t, begin(t, frames), begin(t, frames), nil)
	}
}

// P4.2, Differ: each single byte of a frame counts, the first and the last one among them.
func TestDifferByte(t *testing.T) {
	m, b := patterned(t, 3)
	o := m.Clone()
	for i, x := range b {
		o.PutByte(uint32(i), x^0x80)
		differs(t, m, o, []int{i / page})
		o.PutByte(uint32(i), x)
	}
	differs(t, m, o, nil)
}

// P4.2, Differ: the first, the last and several frames, rising, whatever the order in which they were changed.
func TestDifferFrames(t *testing.T) {
	for _, list := range [][]int{{0}, {1023}, {1023, 0}, {700, 3, 512, 4, 1023, 511, 0}, {9, 8, 7, 6}} {
		m, _ := patterned(t, 1024)
		o := m.Clone()
		for _, n := range list {
			o.Fill(n, []byte{0})
		}
		want := slices.Sorted(slices.Values(list))
		differs(t, m, o, want)
	}
	m, _ := patterned(t, 40)
	every := make([]int, 40)
	for n := range every {
		every[n] = n
	}
	differs(t, m, begin(t, 40), every)
}

// P4.2, Differ: frames that only one of both has are told, of noughts too.
func TestDifferSizes(t *testing.T) {
	differs(t, begin(t, 1), begin(t, 4), []int{1, 2, 3})
	differs(t, begin(t, 1023), begin(t, 1024), []int{1023})
	m, _ := patterned(t, 2)
	o, _ := patterned(t, 5)
	differs(t, m, o, []int{2, 3, 4})
	o.PutByte(0, 0)
	differs(t, m, o, []int{0, 2, 3, 4})
	m.PutByte(511, 0)
	differs(t, m, o, []int{0, 1, 2, 3, 4})
	differs(t, m, begin(t, 3), []int{0, 1, 2})
}

// P4.3: Fill leaves its bytes, and what lies behind their length, and keeps none of them.
func TestFillMemory(t *testing.T) {
	for _, size := range []int{0, 5, 255, 256, 257} {
		all := pattern(600)
		before := bytes.Clone(all)
		m, want := patterned(t, 2)
		e := m.Fill(1, all[:size])
		if !bytes.Equal(all, before) {
			t.Fatalf("Fill of %d bytes changes them", size)
		}
		if e == api.OK {
			clear(want[page:])
			copy(want[page:], before[:size])
		}
		clear(all)
		holds(t, m, want)
		m.PutWord(256, 0x99999999)
		m.PutWord(508, 0x99999999)
		if !bytes.Equal(all, make([]byte, 600)) {
			t.Errorf("Fill of %d bytes keeps them", size)
		}
	}
}

// P4.3: what Frame answers is new memory, spare room too: neither the memory's nor another answer's.
func TestFrameMemory(t *testing.T) {
	m, b := patterned(t, 3)
	first, _ := m.Frame(1)
	second, _ := m.Frame(1)
	spare := first[:cap(first)]
	for i := range spare {
		spare[i] = 0xee
	}
	holds(t, m, b)
	if !bytes.Equal(second, b[page:2*page]) {
		t.Error("two answers share memory")
	}
	m.Fill(1, nil)
	if !bytes.Equal(second, b[page:2*page]) {
		t.Error("an answer is changed with its memory")
	}
}

// P4.3: what Differ answers is new memory; both memories stay as they are.
func TestDifferMemory(t *testing.T) {
	m, b := patterned(t, 3)
	o := begin(t, 5)
	first, second := m.Differ(o), m.Differ(o)
	spare := first[:cap(first)]
	for i := range spare {
		spare[i] = -7
	}
	want := []int{0, 1, 2, 3, 4}
	if !slices.Equal(second, want) || !slices.Equal(m.Differ(o), want) {
		t.Errorf("answers share memory: %v", second)
	}
	holds(t, m, b)
	holds(t, o, make([]byte, 5*page))
	o.Fill(0, b[:page])
	if !slices.Equal(second, want) {
		t.Error("an answer is changed with a memory")
	}
}

// P4.1 and P4.2: a long row of calls of all kinds does what it does to plain bytes.
func TestRow(t *testing.T) {
	const frames = 4
	m, want := begin(t, frames), make([]byte, frames*page)
	state := uint32(1)
	next := func() uint32 {
		state = state*1664525 + 1013904223
		return state >> 8
	}
	for range 20000 {
		addr, x := next()%(frames*page+64), next()
		inside := addr < frames*page
		switch next() % 3 {
		case 0:
			if ok := m.PutByte(addr, byte(x)); ok != inside {
				t.Fatalf("PutByte(%d): %t", addr, ok)
			}
			if inside {
				want[addr] = byte(x)
			}
		case 1:
			whole := inside && addr%4 == 0
			if ok := m.PutWord(addr, x); ok != whole {
				t.Fatalf("PutWord(%d): %t", addr, ok)
			}
			if whole {
				copy(want[addr:], []byte{byte(x), byte(x >> 8), byte(x >> 16), byte(x >> 24)})
			}
		case 2:
			b := bytes.Repeat([]byte{byte(x)}, int(next()%300))
			e := m.Fill(int(addr/page), b)
			if (e == api.OK) != (inside && len(b) <= page) {
				t.Fatalf("Fill(%d) of %d bytes: %v", addr/page, len(b), e)
			}
			if e == api.OK {
				row := want[addr/page*page:][:page]
				clear(row)
				copy(row, b)
			}
		}
	}
	holds(t, m, want)
}
