package entry_test

import (
	"math"
	"testing"

	"warder/entry"
)

// mix: the entry whose four bools are the bits of a number from 0 to 15, with a Frame.
func mix(bools, frame int) entry.Entry {
	return entry.Entry{Valid: bools%2 == 1, Write: bools/2%2 == 1, Exec: bools/4%2 == 1, Block: bools/8%2 == 1, Frame: frame}
}

// goodFrames: numbers that have room in a word, the least and the greatest one among them.
func goodFrames() []int {
	return []int{0, 1, 2, 5, 255, 256, 257, 1023, 1024, 0x5555, 0x8000, 0xaaaa, 65534, 65535}
}

// farFrames: numbers that have no room in a word: just outside, with good ones in their lowest bits, and great ones.
func farFrames() []int {
	return []int{-1, -2, -256, -65535, -65536, -65537, math.MinInt32, math.MinInt, math.MinInt + 1, math.MinInt + 5,
		65536, 65537, 65541, 1 << 17, 1 << 24, math.MaxInt32, 1 << 31, math.MaxUint32, 1 << 32, 1<<32 + 5, 1 << 40, 1<<62 + 1, math.MaxInt - 1, math.MaxInt}
}

// accesses: those that are some, their neighbours, and numbers whose lowest bits are theirs.
func accesses() []int {
	return []int{0, 1, 2, -1, -2, -3, 3, 4, 5, 7, 8, 256, 257, 258, 1 << 32, 1<<32 + 1, 1<<32 + 2, math.MinInt, math.MinInt + 1, math.MinInt + 2, math.MaxInt - 1, math.MaxInt}
}

// P6.1: the numbers of the accesses.
func TestAccesses(t *testing.T) {
	if entry.ARead != 0 || entry.AWrite != 1 || entry.AExec != 2 {
		t.Error(entry.ARead, entry.AWrite, entry.AExec)
	}
}

// P6.1, the chapter's example, and other words by hand.
func TestWordsByHand(t *testing.T) {
	for _, c := range []struct {
		e entry.Entry
		w uint32
	}{
		{entry.Entry{Valid: true, Write: true, Frame: 5}, 0x00000503},
		{entry.Entry{}, 0},
		{entry.Entry{Valid: true}, 0x00000001},
		{entry.Entry{Valid: true, Exec: true}, 0x00000005},
		{entry.Entry{Valid: true, Block: true}, 0x00000009},
		{entry.Entry{Valid: true, Frame: 1}, 0x00000101},
		{entry.Entry{Valid: true, Frame: 0x8000}, 0x00800001},
		{entry.Entry{Valid: true, Write: true, Exec: true, Block: true, Frame: 65535}, 0x00ffff0f},
	} {
		if w, ok := entry.Encode(c.e); !ok || w != c.w {
			t.Errorf("Encode(%+v): %#x %t, not %#x", c.e, w, ok, c.w)
		}
		if e := entry.Decode(c.w); e != c.e {
			t.Errorf("Decode(%#x): %+v, not %+v", c.w, e, c.e)
		}
	}
}

// P6.1, Encode: every mix of the bools, with Frames that have room, and with ones that haven't.
func TestEncode(t *testing.T) {
	for bools := range 16 {
		for _, frame := range goodFrames() {
			e := mix(bools, frame)
			want, there := uint32(256*frame+bools), e.Valid
			if bools == 0 && frame == 0 {
				there = true
			}
			if !there {
				want = 0
			}
			if w, ok := entry.Encode(e); w != want || ok != there {
				t.Errorf("Encode(%+v): %#x %t, not %#x %t", e, w, ok, want, there)
			}
		}
		for _, frame := range farFrames() {
			if w, ok := entry.Encode(mix(bools, frame)); w != 0 || ok {
				t.Errorf("Encode(%+v): %#x %t", mix(bools, frame), w, ok)
			}
		}
	}
}

// P6.1, Encode: an entry that isn't valid must be noughts in each of its fields.
func TestEncodeNotValid(t *testing.T) {
	for _, e := range []entry.Entry{
		{Write: true}, {Exec: true}, {Block: true}, {Frame: 1}, {Frame: 65535}, {Frame: 65536}, {Frame: -1},
		{Write: true, Exec: true, Block: true, Frame: 5},
	} {
		if w, ok := entry.Encode(e); ok || w != 0 {
			t.Errorf("Encode(%+v): %#x %t", e, w, ok)
		}
	}
	if w, ok := entry.Encode(entry.Entry{}); !ok || w != 0 {
		t.Errorf("Encode of noughts: %#x %t", w, ok)
	}
}

// P6.1, Decode: a word's bits by sums, whatever stands in those that tell nothing.
func TestDecode(t *testing.T) {
	for bools := range 16 {
		for _, frame := range goodFrames() {
			want := mix(bools, frame)
			if !want.Valid {
				want = entry.Entry{}
			}
			for low := range uint32(16) {
				for _, high := range []uint32{0, 1, 2, 0x40, 0x55, 0x80, 0xaa, 0xfe, 0xff} {
					w := high<<24 + uint32(frame)*256 + low*16 + uint32(bools)
					if e := entry.Decode(w); e != want {
						t.Fatalf("Decode(%#x): %+v, not %+v", w, e, want)
					}
				}
			}
		}
	}
}

// P6.1, Decode: each single bit that tells nothing, in words of noughts and of ones in the others.
func TestDecodeSilentBits(t *testing.T) {
	for _, w := range []uint32{0x00000001, 0x00000503, 0x00ffff0f, 0, 0x00ffff0e} {
		want := entry.Decode(w)
		for _, at := range []int{4, 5, 6, 7, 24, 25, 26, 27, 28, 29, 30, 31} {
			if e := entry.Decode(w | 1<<at); e != want {
				t.Errorf("Decode(%#x): %+v, not %+v", w|1<<at, e, want)
			}
		}
	}
}

// P6.1, Decode: a word that isn't valid is noughts, whatever else it has.
func TestDecodeNotValid(t *testing.T) {
	for _, w := range []uint32{0, 2, 4, 8, 0xe, 0x10, 0x100, 0x502, 0xffff00, 0x00ffff0e, 0x01000000, 0x80000000, 0xfffffffe} {
		if e := entry.Decode(w); e != (entry.Entry{}) {
			t.Errorf("Decode(%#x): %+v", w, e)
		}
	}
}

// P6.1: every entry that has a word comes back from it, and no two have the same one.
func TestThereAndBack(t *testing.T) {
	for bools := 1; bools < 16; bools += 2 {
		for frame := range 65536 {
			e := mix(bools, frame)
			w, ok := entry.Encode(e)
			if back := entry.Decode(w); !ok || back != e {
				t.Fatalf("%+v: %#x %t, back %+v", e, w, ok, back)
			}
		}
	}
}

// P6.1: the word of a word's entry has noughts in the bits that tell nothing, and is the word else.
func TestBackAndThere(t *testing.T) {
	state := uint32(1)
	for range 200000 {
		state = state*1664525 + 1013904223
		w := state ^ state>>15
		want := w &^ 0xff0000f0
		if w%2 == 0 {
			want = 0
		}
		if x, ok := entry.Encode(entry.Decode(w)); !ok || x != want {
			t.Fatalf("%#x: %#x %t, not %#x", w, x, ok, want)
		}
	}
}

// P6.1, Allows: every mix of the bools, each access and numbers that are none; neither the Frame nor the block counts.
func TestAllows(t *testing.T) {
	for bools := range 16 {
		for _, frame := range []int{0, 5, 65535, 65536, -1, math.MinInt, math.MaxInt} {
			e := mix(bools, frame)
			for _, access := range accesses() {
				want := access == 0 && e.Valid || access == 1 && e.Valid && e.Write || access == 2 && e.Valid && e.Exec
				if ok := entry.Allows(e, access); ok != want {
					t.Errorf("Allows(%+v, %d): %t", e, access, ok)
				}
			}
		}
	}
}

// P6.1, Allows: by hand, and nothing of an entry that isn't valid.
func TestAllowsByHand(t *testing.T) {
	for _, c := range []struct {
		e    entry.Entry
		want [5]bool // of -1, ARead, AWrite, AExec, 3
	}{
		{entry.Entry{Valid: true}, [5]bool{false, true, false, false, false}},
		{entry.Entry{Valid: true, Write: true}, [5]bool{false, true, true, false, false}},
		{entry.Entry{Valid: true, Exec: true}, [5]bool{false, true, false, true, false}},
		{entry.Entry{Valid: true, Write: true, Exec: true, Block: true, Frame: 9}, [5]bool{false, true, true, true, false}},
		{entry.Entry{Write: true, Exec: true, Block: true, Frame: 9}, [5]bool{}},
		{entry.Entry{}, [5]bool{}},
	} {
		for i, want := range c.want {
			if ok := entry.Allows(c.e, i-1); ok != want {
				t.Errorf("Allows(%+v, %d): %t", c.e, i-1, ok)
			}
		}
	}
}

// P6.2, Both: every mix of two entries, with Frames of all kinds.
func TestBoth(t *testing.T) {
	frames := []int{0, 1, 7, 65535, 65536, -1, math.MinInt, math.MaxInt}
	for one := range 16 {
		for two := range 16 {
			for _, f := range frames {
				for _, g := range frames {
					both(t, mix(one, f), mix(two, g))
				}
			}
		}
	}
}

// both holds one answer of Both against its promise.
func both(t *testing.T, a, b entry.Entry) {
	t.Helper()
	e := entry.Both(a, b)
	if !a.Valid || !b.Valid {
		if e != (entry.Entry{}) {
			t.Fatalf("Both(%+v, %+v): %+v", a, b, e)
		}
		return
	}
	want := entry.Entry{Valid: true, Write: a.Write && b.Write, Exec: a.Exec && b.Exec, Frame: b.Frame}
	if e != want {
		t.Fatalf("Both(%+v, %+v): %+v, not %+v", a, b, e, want)
	}
	for access := -1; access <= 3; access++ {
		if entry.Allows(e, access) != (entry.Allows(a, access) && entry.Allows(b, access)) {
			t.Fatalf("Both(%+v, %+v) and the access %d", a, b, access)
		}
	}
}

// P6.2, Both: by hand.
func TestBothByHand(t *testing.T) {
	all := entry.Entry{Valid: true, Write: true, Exec: true, Block: true, Frame: 3}
	for _, c := range []struct{ a, b, want entry.Entry }{
		{all, all, entry.Entry{Valid: true, Write: true, Exec: true, Frame: 3}},
		{all, entry.Entry{Valid: true, Write: true, Frame: 8}, entry.Entry{Valid: true, Write: true, Frame: 8}},
		{entry.Entry{Valid: true, Exec: true, Frame: 8}, all, entry.Entry{Valid: true, Exec: true, Frame: 3}},
		{entry.Entry{Valid: true, Exec: true, Frame: 1}, entry.Entry{Valid: true, Write: true, Block: true, Frame: 2}, entry.Entry{Valid: true, Frame: 2}},
		{all, entry.Entry{Write: true, Frame: 3}, entry.Entry{}},
		{entry.Entry{Exec: true, Frame: 3}, all, entry.Entry{}},
		{entry.Entry{}, entry.Entry{}, entry.Entry{}},
	} {
		if e := entry.Both(c.a, c.b); e != c.want {
			t.Errorf("Both(%+v, %+v): %+v, not %+v", c.a, c.b, e, c.want)
		}
	}
}

// P6.2, Inside: below 2^20, and from there on.
func TestInside(t *testing.T) {
	for _, addr := range []uint32{0, 1, 255, 256, 0x45678, 1 << 19, 1<<20 - 256, 1<<20 - 2, 1<<20 - 1} {
		if !entry.Inside(addr) {
			t.Errorf("Inside(%#x): false", addr)
		}
	}
	for _, addr := range []uint32{1 << 20, 1<<20 + 1, 1<<20 + 255, 1 << 21, 0x145678, 1 << 24, math.MaxInt32, 1 << 31, 1<<31 + 5, math.MaxUint32 - 1, math.MaxUint32} {
		if entry.Inside(addr) {
			t.Errorf("Inside(%#x): true", addr)
		}
	}
}

// parts holds what is told of an address against these.
func parts(t *testing.T, addr uint32, first, second, offset, page int) {
	t.Helper()
	f, s, o, p := entry.First(addr), entry.Second(addr), entry.Offset(addr), entry.PageOf(addr)
	if f != first || s != second || o != offset || p != page {
		t.Fatalf("%#x: %d %d %d %d, not %d %d %d %d", addr, f, s, o, p, first, second, offset, page)
	}
}

// P6.2, First, Second, Offset, PageOf: by hand.
func TestPartsByHand(t *testing.T) {
	parts(t, 0, 0, 0, 0, 0)
	parts(t, 0x45678, 17, 22, 0x78, 0x456)
	parts(t, 0x000ff, 0, 0, 255, 0)
	parts(t, 0x00100, 0, 1, 0, 1)
	parts(t, 0x03fff, 0, 63, 255, 63)
	parts(t, 0x04000, 1, 0, 0, 64)
	parts(t, 0xfc000, 63, 0, 0, 4032)
	parts(t, 0xfffff, 63, 63, 255, 4095)
	parts(t, 0x100000, 0, 0, 0, 0)
	parts(t, 0x100001, 0, 0, 1, 0)
	parts(t, 0xfff00000, 0, 0, 0, 0)
	parts(t, 0xabcc0101, 48, 1, 1, 0xc01)
	parts(t, 0xffffffff, 63, 63, 255, 4095)
}

// P6.2: the parts of every address by sums; of ones that are none those of their lowest 20 bits; and each is joined of its parts again.
func TestParts(t *testing.T) {
	for addr := range uint32(1 << 20) {
		n := int(addr)
		first, second, offset, page := n/16384, n/256%64, n%256, n/256
		parts(t, addr, first, second, offset, page)
		high := (addr%4095 + 1) << 20
		parts(t, high+addr, first, second, offset, page)
		if a, ok := entry.Join(page, offset); !ok || a != addr {
			t.Fatalf("Join(%d, %d): %#x %t, not %#x", page, offset, a, ok, addr)
		}
	}
}

// P6.2, Join: pages and offsets at their edges, and what is beyond them, each alone and both together.
func TestJoin(t *testing.T) {
	pages := []int{0, 1, 63, 64, 0x456, 4094, 4095}
	offsets := []int{0, 1, 0x78, 254, 255}
	farPages := []int{-1, -2, -4096, math.MinInt32, math.MinInt, math.MinInt + 1, 4096, 4097, 8191, 65536, 1 << 24, 1 << 32, 1<<32 + 1, 1 << 56, 1 << 62, math.MaxInt - 1, math.MaxInt}
	farOffsets := []int{-1, -2, -256, math.MinInt32, math.MinInt, math.MinInt + 1, 256, 257, 512, 65536, 1 << 20, 1 << 32, 1<<32 + 1, 1 << 62, math.MaxInt - 1, math.MaxInt}
	for _, page := range pages {
		for _, offset := range offsets {
			a, ok := entry.Join(page, offset)
			if !ok || a != uint32(256*page+offset) || !entry.Inside(a) {
				t.Errorf("Join(%d, %d): %#x %t", page, offset, a, ok)
			}
			if entry.PageOf(a) != page || entry.Offset(a) != offset {
				t.Errorf("Join(%d, %d): %#x has other parts", page, offset, a)
			}
		}
	}
	refused(t, pages, farOffsets)
	refused(t, farPages, offsets)
	refused(t, farPages, farOffsets)
}

// refused: none of these pages and offsets are joined.
func refused(t *testing.T, pages, offsets []int) {
	t.Helper()
	for _, page := range pages {
		for _, offset := range offsets {
			if a, ok := entry.Join(page, offset); ok || a != 0 {
				t.Errorf("Join(%d, %d): %#x %t", page, offset, a, ok)
			}
		}
	}
}
