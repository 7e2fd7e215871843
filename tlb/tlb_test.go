package tlb_test

import (
	"math"
	"slices"
	"testing"

	"warder/api"
	"warder/tlb"
)

// slot: an entry without rights.
func slot(vmid, page, frame int) tlb.Slot { return tlb.Slot{Vmid: vmid, Page: page, Frame: frame} }

// begin: a TLB of a room, filled with these.
func begin(t *testing.T, room int, slots ...tlb.Slot) *tlb.Tlb {
	t.Helper()
	x, e := tlb.New(room)
	if e != api.OK || x == nil {
		t.Fatalf("New(%d): %v", room, e)
	}
	fill(x, slots...)
	return x
}

// fill keeps these, one after the other.
func fill(x *tlb.Tlb, slots ...tlb.Slot) {
	for _, s := range slots {
		x.Fill(s)
	}
}

// is holds the entries of a TLB, in the order of their places, against these, and what each of them is found by.
func is(t *testing.T, x *tlb.Tlb, want ...tlb.Slot) {
	t.Helper()
	if list := x.List(); !slices.Equal(list, want) {
		t.Errorf("List: %v, not %v", list, want)
	}
	for _, s := range want {
		if got, ok := x.Find(s.Vmid, s.Page); !ok || got != s {
			t.Errorf("Find(%d, %d): %v %v, not %v", s.Vmid, s.Page, got, ok, s)
		}
	}
}

// none holds that a vmid and a page have no entry.
func none(t *testing.T, x *tlb.Tlb, vmid, page int) {
	t.Helper()
	if got, ok := x.Find(vmid, page); ok || got != (tlb.Slot{}) {
		t.Errorf("Find(%d, %d): %v %v, not noughts", vmid, page, got, ok)
	}
}

// gone holds how many are gone against how many should be.
func gone(t *testing.T, call string, got, want int) {
	t.Helper()
	if got != want {
		t.Errorf("%s: %d, not %d", call, got, want)
	}
}

// row: numbers that differ, the same each time.
func row(seed uint32) func(n int) int {
	return func(n int) int {
		seed = seed*1664525 + 1013904223
		return int(seed>>8) % n
	}
}

// far: numbers below 0, and great ones, ones whose lowest bits are 0, 1 or 2 among them.
func far() []int {
	return []int{-1, -2, -255, -256, math.MinInt32, math.MinInt, math.MinInt + 1, math.MinInt + 2, 256, 257, 258, 4096, 65536, 65537, 1 << 24, 1<<24 + 1,
		math.MaxInt32, 1 << 31, 1 << 32, 1<<32 + 1, 1<<32 + 2, 1<<56 + 1, 1 << 62, math.MaxInt - 1, math.MaxInt}
}

// cell is a place of the model.
type cell struct {
	used bool
	slot tlb.Slot
}

// model is a TLB, told by the chapter's sentences one after the other.
type model struct {
	places []cell
	next   int
}

// find: the place of a vmid and a page, or -1.
func (m *model) find(vmid, page int) int {
	for i, c := range m.places {
		if c.used && c.slot.Vmid == vmid && c.slot.Page == page {
			return i
		}
	}
	return -1
}

// fill keeps an entry.
func (m *model) fill(s tlb.Slot) {
	if i := m.find(s.Vmid, s.Page); i >= 0 {
		m.places[i].slot = s
		return
	}
	m.places[m.next] = cell{true, s}
	m.next++
	if m.next == len(m.places) {
		m.next = 0
	}
}

// drop frees the places of all entries of which this is so.
func (m *model) drop(so func(s tlb.Slot) bool) int {
	n := 0
	for i, c := range m.places {
		if c.used && so(c.slot) {
			m.places[i] = cell{}
			n++
		}
	}
	return n
}

// list: the entries, in the order of their places.
func (m *model) list() []tlb.Slot {
	var list []tlb.Slot
	for _, c := range m.places {
		if c.used {
			list = append(list, c.slot)
		}
	}
	return list
}

// P9.1, the chapter's example: three into a room for two.
func TestExample(t *testing.T) {
	x := begin(t, 2, slot(1, 1, 5), slot(1, 2, 6), slot(1, 3, 7))
	none(t, x, 1, 1)
	is(t, x, slot(1, 3, 7), slot(1, 2, 6))
}

// P9.1, New: rooms out of 1 to 64, ones whose lowest bits are those of good ones among them.
func TestNewRange(t *testing.T) {
	rooms := append([]int{0, -1, -64, 65, 66, 127, 128, 129, 1024, 1<<16 + 2, 1<<32 + 64, 1<<56 + 64, math.MinInt + 64}, far()...)
	for _, room := range rooms {
		if x, e := tlb.New(room); x != nil || e != api.ErrRange {
			t.Errorf("New(%d): %v %v", room, x, e)
		}
	}
}

// P9.1, New: every room of 1 to 64 is empty, has just that room, and is a TLB of its own.
func TestNew(t *testing.T) {
	for room := 1; room <= 64; room++ {
		x, other := begin(t, room), begin(t, room)
		is(t, x)
		none(t, x, 0, 0)
		var want []tlb.Slot
		for n := range room {
			want = append(want, slot(2, n, n+100))
			x.Fill(want[n])
			is(t, x, want...)
		}
		want[0] = slot(2, room, 9)
		x.Fill(want[0])
		none(t, x, 2, 0)
		is(t, x, want...)
		is(t, other)
	}
}

// P9.1, Find: what was never filled, in an empty TLB and in one that holds others.
func TestFindNone(t *testing.T) {
	empty, x := begin(t, 64), begin(t, 64, slot(1, 2, 3), slot(2, 1, 4))
	for _, n := range append([]int{0, 3, 4, 255}, far()...) {
		for _, k := range append([]int{0, 1, 2, 3, 255}, far()...) {
			none(t, empty, n, k)
			none(t, empty, k, n)
			none(t, x, n, k)
			none(t, x, k, n)
		}
	}
	none(t, x, 1, 1)
	none(t, x, 2, 2)
	is(t, x, slot(1, 2, 3), slot(2, 1, 4))
}

// P9.1, Find: what was filled, all its fields, by its Vmid and Page alone, not by its Frame.
func TestFind(t *testing.T) {
	slots := []tlb.Slot{
		{Vmid: 1, Page: 2, Frame: 3, Write: true},
		{Vmid: 1, Page: 3, Frame: 2, Exec: true},
		{Vmid: 2, Page: 1, Frame: 3, Write: true, Exec: true},
		{Vmid: 3, Page: 2, Frame: 1},
		{},
	}
	x := begin(t, 5, slots...)
	is(t, x, slots...)
	for vmid := range 5 {
		for page := range 5 {
			if !slices.ContainsFunc(slots, func(s tlb.Slot) bool { return s.Vmid == vmid && s.Page == page }) {
				none(t, x, vmid, page)
			}
		}
	}
}

// P9.1, Find and Fill: numbers below 0 and great ones are numbers as others, each other than those of the same lowest bits.
func TestFarNumbers(t *testing.T) {
	numbers := append([]int{0, 1, 2}, far()...)
	for i, n := range numbers {
		x, want := begin(t, 64), []tlb.Slot(nil)
		for k, page := range numbers {
			want = append(want, tlb.Slot{Vmid: n, Page: page, Frame: numbers[(i+k)%len(numbers)], Write: k%2 == 0, Exec: k%3 == 0})
			x.Fill(want[k])
		}
		is(t, x, want...)
		for _, other := range numbers {
			if other != n {
				none(t, x, other, n)
			}
		}
	}
}

// P9.1, Fill: an entry whose Vmid and Page stand there is replaced in its place, and the next place is as it was.
func TestFillAgain(t *testing.T) {
	a, b, c := slot(1, 1, 10), slot(1, 2, 11), slot(2, 1, 12)
	again := tlb.Slot{Vmid: 1, Page: 1, Frame: 20, Write: true, Exec: true}
	x := begin(t, 4, a, b, c, again)
	is(t, x, again, b, c)
	last := tlb.Slot{Vmid: 2, Page: 1, Frame: 12, Exec: true}
	fill(x, last, last, slot(1, 2, 30))
	is(t, x, again, slot(1, 2, 30), last)
	fill(x, slot(3, 1, 40), slot(3, 2, 41))
	is(t, x, slot(3, 2, 41), slot(1, 2, 30), last, slot(3, 1, 40))

	full := begin(t, 3, a, b, c)
	fill(full, again)
	is(t, full, again, b, c)
	fill(full, slot(9, 9, 9))
	is(t, full, slot(9, 9, 9), b, c)
	fill(full, last, slot(8, 8, 8))
	is(t, full, slot(9, 9, 9), slot(8, 8, 8), last)
}

// P9.1, Fill: a new entry stands at the next place, whether it is free or another one stands there, whichever rights and Frame either has.
func TestFillNew(t *testing.T) {
	x := begin(t, 3, slot(1, 1, 7))
	fill(x, slot(1, 2, 7))
	is(t, x, slot(1, 1, 7), slot(1, 2, 7))
	fill(x, slot(2, 1, 7))
	is(t, x, slot(1, 1, 7), slot(1, 2, 7), slot(2, 1, 7))
	fill(x, slot(2, 2, 7))
	none(t, x, 1, 1)
	is(t, x, slot(2, 2, 7), slot(1, 2, 7), slot(2, 1, 7))
	fill(x, slot(1, 1, 7))
	none(t, x, 1, 2)
	is(t, x, slot(2, 2, 7), slot(1, 1, 7), slot(2, 1, 7))
}

// P9.1, Fill: many times the room, each new one where the one before it by a whole room stood.
func TestFillManyTimes(t *testing.T) {
	for _, room := range []int{1, 2, 3, 7, 63, 64} {
		x, want := begin(t, room), make([]tlb.Slot, room)
		for n := range 10*room + 3 {
			s := slot(n%5, n, n%3)
			x.Fill(s)
			want[n%room] = s
			if n >= room {
				none(t, x, (n-room)%5, n-room)
				is(t, x, want...)
			}
		}
	}
}

// P9.1, Fill: a room of 1 holds the last one alone.
func TestRoomOfOne(t *testing.T) {
	x := begin(t, 1, slot(1, 1, 1))
	is(t, x, slot(1, 1, 1))
	fill(x, slot(1, 1, 2))
	is(t, x, slot(1, 1, 2))
	fill(x, slot(1, 2, 3))
	none(t, x, 1, 1)
	is(t, x, slot(1, 2, 3))
	if !x.Drop(1, 2) {
		t.Error("nothing dropped")
	}
	is(t, x)
	fill(x, slot(1, 2, 4))
	is(t, x, slot(1, 2, 4))
	gone(t, "DropAll", x.DropAll(1), 1)
	fill(x, slot(2, 2, 5), slot(1, 2, 6))
	is(t, x, slot(1, 2, 6))
	gone(t, "DropFrame", x.DropFrame(6), 1)
	is(t, x)
	fill(x, slot(2, 2, 5))
	x.Clear()
	is(t, x)
	fill(x, slot(2, 2, 5))
	is(t, x, slot(2, 2, 5))
}

// P9.2, Drop: the entry of a vmid and a page alone, once; the others stay.
func TestDrop(t *testing.T) {
	x := begin(t, 4, slot(1, 1, 9), slot(1, 2, 9), slot(2, 1, 9), slot(2, 2, 9))
	for _, n := range append([]int{0, 3, 9}, far()...) {
		for _, k := range []int{1, 2, n} {
			if x.Drop(n, k) || x.Drop(k, n) {
				t.Errorf("dropped: %d and %d", n, k)
			}
		}
	}
	is(t, x, slot(1, 1, 9), slot(1, 2, 9), slot(2, 1, 9), slot(2, 2, 9))
	if !x.Drop(1, 2) || x.Drop(1, 2) {
		t.Error("Drop(1, 2): not once")
	}
	none(t, x, 1, 2)
	is(t, x, slot(1, 1, 9), slot(2, 1, 9), slot(2, 2, 9))
	if !x.Drop(1, 1) || !x.Drop(2, 2) || !x.Drop(2, 1) || x.Drop(2, 1) {
		t.Error("Drop: not each once")
	}
	is(t, x)
	if empty := begin(t, 4); empty.Drop(0, 0) || empty.Drop(1, 1) {
		t.Error("Drop: what isn't there")
	}
}

// P9.1 and P9.2: behind a Drop a new entry stands at the next place, not at the one that became free, also where another one stands at the next place.
func TestFillBehindDrop(t *testing.T) {
	x := begin(t, 4, slot(1, 0, 0), slot(1, 1, 1), slot(1, 2, 2))
	x.Drop(1, 0)
	fill(x, slot(2, 0, 3))
	is(t, x, slot(1, 1, 1), slot(1, 2, 2), slot(2, 0, 3))
	fill(x, slot(2, 1, 4))
	is(t, x, slot(2, 1, 4), slot(1, 1, 1), slot(1, 2, 2), slot(2, 0, 3))

	full := begin(t, 3, slot(1, 0, 0), slot(1, 1, 1), slot(1, 2, 2))
	full.Drop(1, 1)
	fill(full, slot(2, 0, 3))
	none(t, full, 1, 0)
	is(t, full, slot(2, 0, 3), slot(1, 2, 2))
	fill(full, slot(2, 1, 4))
	is(t, full, slot(2, 0, 3), slot(2, 1, 4), slot(1, 2, 2))
	full.Drop(2, 1)
	fill(full, slot(2, 2, 5))
	none(t, full, 1, 2)
	is(t, full, slot(2, 0, 3), slot(2, 2, 5))
}

// P9.1 and P9.2: an entry of which a place became free, filled anew, stands at the next place, not at its old one.
func TestFillAnew(t *testing.T) {
	x := begin(t, 4, slot(1, 0, 0), slot(1, 1, 1), slot(1, 2, 2))
	x.Drop(1, 0)
	fill(x, slot(1, 0, 5))
	is(t, x, slot(1, 1, 1), slot(1, 2, 2), slot(1, 0, 5))
	x.Drop(1, 2)
	fill(x, slot(1, 2, 6))
	is(t, x, slot(1, 2, 6), slot(1, 1, 1), slot(1, 0, 5))
	gone(t, "DropFrame", x.DropFrame(5), 1)
	fill(x, slot(1, 0, 7))
	none(t, x, 1, 1)
	is(t, x, slot(1, 2, 6), slot(1, 0, 7))
	gone(t, "DropAll", x.DropAll(1), 2)
	fill(x, slot(1, 2, 8), slot(1, 0, 9), slot(1, 1, 10))
	is(t, x, slot(1, 1, 10), slot(1, 2, 8), slot(1, 0, 9))
}

// mixed: a room of 8 whose entries are of three vmids and four frames, the next place 1.
func mixed(t *testing.T) *tlb.Tlb {
	t.Helper()
	return begin(t, 8, slot(9, 9, 9), slot(2, 1, 30), slot(1, 2, 20), slot(3, 1, 20), slot(1, 3, 30), slot(2, 3, 20), slot(1, 1, 3), slot(2, 2, 1), slot(1, 4, 20))
}

// P9.2, DropAll and DropFrame: of numbers that no entry has, also such as others of its fields have: none, and all stay.
func TestDropNone(t *testing.T) {
	for _, n := range append([]int{0, 4, 5}, far()...) {
		x := mixed(t)
		gone(t, "DropAll", x.DropAll(n), 0)
		gone(t, "DropFrame", x.DropFrame(n), 0)
		gone(t, "DropAll of a frame", x.DropAll(20), 0)
		gone(t, "DropFrame of a page", x.DropFrame(2), 0)
		is(t, x, slot(1, 4, 20), slot(2, 1, 30), slot(1, 2, 20), slot(3, 1, 20), slot(1, 3, 30), slot(2, 3, 20), slot(1, 1, 3), slot(2, 2, 1))
		gone(t, "DropAll of nothing", begin(t, 8).DropAll(n), 0)
		gone(t, "DropFrame of nothing", begin(t, 8).DropFrame(n), 0)
	}
}

// P9.2, DropAll: one and several of a vmid; the others stay, each in its place, and the next place too.
func TestDropAll(t *testing.T) {
	x := mixed(t)
	gone(t, "DropAll(3)", x.DropAll(3), 1)
	is(t, x, slot(1, 4, 20), slot(2, 1, 30), slot(1, 2, 20), slot(1, 3, 30), slot(2, 3, 20), slot(1, 1, 3), slot(2, 2, 1))
	gone(t, "DropAll(1)", x.DropAll(1), 4)
	gone(t, "DropAll(1)", x.DropAll(1), 0)
	is(t, x, slot(2, 1, 30), slot(2, 3, 20), slot(2, 2, 1))
	fill(x, slot(5, 1, 1))
	is(t, x, slot(5, 1, 1), slot(2, 3, 20), slot(2, 2, 1))
	fill(x, slot(5, 2, 1), slot(5, 3, 1))
	is(t, x, slot(5, 1, 1), slot(5, 2, 1), slot(5, 3, 1), slot(2, 3, 20), slot(2, 2, 1))
	gone(t, "DropAll(2)", x.DropAll(2), 2)
	gone(t, "DropAll(5)", x.DropAll(5), 3)
	is(t, x)
}

// P9.2, DropFrame: one and several that tell a frame, of several vmids; the others stay, each in its place, and the next place too.
func TestDropFrame(t *testing.T) {
	x := mixed(t)
	gone(t, "DropFrame(3)", x.DropFrame(3), 1)
	is(t, x, slot(1, 4, 20), slot(2, 1, 30), slot(1, 2, 20), slot(3, 1, 20), slot(1, 3, 30), slot(2, 3, 20), slot(2, 2, 1))
	gone(t, "DropFrame(20)", x.DropFrame(20), 4)
	gone(t, "DropFrame(20)", x.DropFrame(20), 0)
	is(t, x, slot(2, 1, 30), slot(1, 3, 30), slot(2, 2, 1))
	fill(x, slot(5, 1, 7))
	is(t, x, slot(5, 1, 7), slot(1, 3, 30), slot(2, 2, 1))
	fill(x, slot(5, 2, 7), slot(5, 3, 7), slot(5, 4, 7))
	is(t, x, slot(5, 1, 7), slot(5, 2, 7), slot(5, 3, 7), slot(5, 4, 7), slot(2, 2, 1))
	gone(t, "DropFrame(1)", x.DropFrame(1), 1)
	gone(t, "DropFrame(7)", x.DropFrame(7), 4)
	is(t, x)
}

// P9.2, DropFrame: the frame that an entry tells now counts, not one it told earlier, nor one of an entry that is gone.
func TestDropFrameNow(t *testing.T) {
	x := begin(t, 2, slot(1, 1, 5), slot(1, 1, 6))
	gone(t, "DropFrame(5)", x.DropFrame(5), 0)
	fill(x, slot(1, 2, 7), slot(1, 3, 8))
	gone(t, "DropFrame(6)", x.DropFrame(6), 0)
	is(t, x, slot(1, 3, 8), slot(1, 2, 7))
	gone(t, "DropFrame(8)", x.DropFrame(8), 1)
	is(t, x, slot(1, 2, 7))
}

// P9.2, DropAll and DropFrame: a whole room of 64, of one vmid and of one frame.
func TestDropWhole(t *testing.T) {
	for n := range 65 {
		x := begin(t, 64)
		for page := range n {
			x.Fill(slot(7, page, 8))
		}
		gone(t, "DropAll(7)", x.DropAll(7), n)
		is(t, x)
		for page := range n {
			x.Fill(slot(page, 7, 8))
		}
		gone(t, "DropFrame(8)", x.DropFrame(8), n)
		is(t, x)
	}
}

// P9.2: the next place stays behind each drop, wherever it is, in rooms that are full or not; behind Clear it is 0.
func TestNextPlace(t *testing.T) {
	const room = 5
	drops := []func(x *tlb.Tlb){
		func(x *tlb.Tlb) { x.Drop(1, 0) },
		func(x *tlb.Tlb) { x.Drop(1, 3) },
		func(x *tlb.Tlb) { x.Drop(1, 7) },
		func(x *tlb.Tlb) { x.Drop(6, 6) },
		func(x *tlb.Tlb) { x.DropAll(1) },
		func(x *tlb.Tlb) { x.DropAll(6) },
		func(x *tlb.Tlb) { x.DropFrame(2) },
		func(x *tlb.Tlb) { x.DropFrame(6) },
	}
	for filled := range 3*room + 1 {
		for i, drop := range drops {
			x := begin(t, room)
			for page := range filled {
				x.Fill(slot(1, page, 2))
			}
			drop(x)
			want := make([]tlb.Slot, room)
			for n := range room {
				want[(filled+n)%room] = slot(3, n, 4)
				x.Fill(slot(3, n, 4))
			}
			if list := x.List(); !slices.Equal(list, want) {
				t.Errorf("behind %d entries and drop %d: %v, not %v", filled, i, list, want)
			}
		}
		x := begin(t, room)
		for page := range filled {
			x.Fill(slot(1, page, 2))
		}
		x.Clear()
		is(t, x)
		none(t, x, 1, max(filled-1, 0))
		fill(x, slot(1, 0, 4), slot(1, 1, 4))
		is(t, x, slot(1, 0, 4), slot(1, 1, 4))
		fill(x, slot(1, 2, 4), slot(1, 3, 4), slot(1, 4, 4), slot(1, 5, 4))
		is(t, x, slot(1, 5, 4), slot(1, 1, 4), slot(1, 2, 4), slot(1, 3, 4), slot(1, 4, 4))
	}
}

// P9.2, Clear: all, whatever their vmids and frames, also of nothing, and again.
func TestClear(t *testing.T) {
	x := mixed(t)
	for range 2 {
		x.Clear()
		is(t, x)
		none(t, x, 1, 2)
		none(t, x, 2, 1)
		gone(t, "DropAll(1)", x.DropAll(1), 0)
		gone(t, "DropFrame(20)", x.DropFrame(20), 0)
		if x.Drop(1, 2) {
			t.Error("something stayed")
		}
	}
	fill(x, slot(1, 2, 3))
	is(t, x, slot(1, 2, 3))
	begin(t, 1).Clear()
}

// P9.2, List: by places, with places free between them, behind wrapping round, not by vmids, pages, frames or age.
func TestList(t *testing.T) {
	x := begin(t, 6, slot(9, 1, 1), slot(3, 8, 5), slot(7, 2, 2), slot(1, 9, 9), slot(5, 5, 5), slot(2, 4, 1))
	is(t, x, slot(9, 1, 1), slot(3, 8, 5), slot(7, 2, 2), slot(1, 9, 9), slot(5, 5, 5), slot(2, 4, 1))
	gone(t, "DropFrame(5)", x.DropFrame(5), 2)
	is(t, x, slot(9, 1, 1), slot(7, 2, 2), slot(1, 9, 9), slot(2, 4, 1))
	fill(x, slot(4, 4, 4), slot(8, 8, 8))
	is(t, x, slot(4, 4, 4), slot(8, 8, 8), slot(7, 2, 2), slot(1, 9, 9), slot(2, 4, 1))
	x.Drop(4, 4)
	x.Drop(2, 4)
	is(t, x, slot(8, 8, 8), slot(7, 2, 2), slot(1, 9, 9))
	fill(x, slot(0, 0, 0))
	is(t, x, slot(8, 8, 8), slot(0, 0, 0), slot(1, 9, 9))
}

// P9.3: a list that is changed or appended to changes nothing of the TLB, nor of another list; what is handed in isn't kept.
func TestNewMemory(t *testing.T) {
	x := begin(t, 8, slot(1, 1, 1), slot(1, 2, 2), slot(1, 3, 3))
	a, b := x.List(), x.List()
	for i := range a {
		a[i] = tlb.Slot{Vmid: 99, Page: 99, Frame: 99, Write: true, Exec: true}
	}
	a = append(a, slot(98, 98, 98))
	for i := range a[:cap(a)] {
		a[:cap(a)][i] = slot(97, 97, 97)
	}
	want := []tlb.Slot{slot(1, 1, 1), slot(1, 2, 2), slot(1, 3, 3)}
	if !slices.Equal(b, want) {
		t.Errorf("another list is changed: %v", b)
	}
	is(t, x, want...)
	none(t, x, 99, 99)
	none(t, x, 98, 98)

	spare := b[:cap(b)]
	for i := len(b); i < len(spare); i++ {
		spare[i] = slot(96, 96, 96)
	}
	fill(x, slot(1, 4, 4), slot(1, 1, 5))
	x.Drop(1, 2)
	if !slices.Equal(b, want) {
		t.Errorf("a list is changed by a call: %v", b)
	}
	is(t, x, slot(1, 1, 5), slot(1, 3, 3), slot(1, 4, 4))

	s := slot(2, 2, 2)
	x.Fill(s)
	s.Frame, s.Write = 3, true
	got, _ := x.Find(2, 2)
	got.Frame = 4
	is(t, x, slot(1, 1, 5), slot(1, 3, 3), slot(1, 4, 4), slot(2, 2, 2))
}

// P9.3: a list's spare room is another one's neither, at any length.
func TestSpareRoom(t *testing.T) {
	for n := range 65 {
		x := begin(t, 64)
		for page := range n {
			x.Fill(slot(1, page, page))
		}
		a, b := x.List(), x.List()
		for _, list := range [][]tlb.Slot{a, b} {
			whole := list[:cap(list)]
			for i := range whole {
				whole[i] = slot(9, 9, len(list))
			}
			list = append(list, slot(8, 8, 8))
			list[0] = slot(7, 7, 7)
		}
		if n > 0 {
			a[0] = slot(1, 1, 1)
			if b[0] == a[0] {
				t.Errorf("two lists of %d share memory", n)
			}
		}
		if list := x.List(); len(list) != n || n > 0 && list[n-1] != slot(1, n-1, n-1) {
			t.Errorf("a TLB of %d is changed: %v", n, list)
		}
	}
}

// numbers: what mixed calls are of: a few small numbers, and some far ones.
func numbers(next func(n int) int) int {
	if next(20) == 0 {
		return far()[next(3)]
	}
	return next(6)
}

// calls does a random call on a TLB and on its model, and tells what both answered.
func calls(x *tlb.Tlb, m *model, next func(n int) int) (got, want int) {
	vmid, page, frame := numbers(next), numbers(next), numbers(next)
	switch n := next(100); {
	case n < 70:
		s := tlb.Slot{Vmid: vmid, Page: page, Frame: frame, Write: next(2) == 0, Exec: next(2) == 0}
		x.Fill(s)
		m.fill(s)
	case n < 90:
		if x.Drop(vmid, page) {
			got = 1
		}
		want = m.drop(func(s tlb.Slot) bool { return s.Vmid == vmid && s.Page == page })
	case n < 94:
		got = x.DropAll(vmid)
		want = m.drop(func(s tlb.Slot) bool { return s.Vmid == vmid })
	case n < 98:
		got = x.DropFrame(frame)
		want = m.drop(func(s tlb.Slot) bool { return s.Frame == frame })
	case next(4) == 0:
		x.Clear()
		*m = model{places: make([]cell, len(m.places))}
	}
	return got, want
}

// agrees holds a TLB against its model, and that no two entries have one Vmid and Page.
func agrees(t *testing.T, x *tlb.Tlb, m *model) {
	t.Helper()
	list := x.List()
	if want := m.list(); !slices.Equal(list, want) {
		t.Fatalf("List of a room of %d: %v, not %v", len(m.places), list, want)
	}
	type name struct{ vmid, page int }
	met := map[name]int{}
	for _, s := range list {
		met[name{s.Vmid, s.Page}]++
		if met[name{s.Vmid, s.Page}] > 1 {
			t.Fatalf("two entries of %d and %d", s.Vmid, s.Page)
		}
	}
}

// finds holds one Find against the model's.
func finds(t *testing.T, x *tlb.Tlb, m *model, vmid, page int) {
	t.Helper()
	i := m.find(vmid, page)
	if i < 0 {
		none(t, x, vmid, page)
		return
	}
	if s, ok := x.Find(vmid, page); !ok || s != m.places[i].slot {
		t.Fatalf("Find(%d, %d): %v %v, not %v", vmid, page, s, ok, m.places[i].slot)
	}
}

// P9.1 and P9.2: rows of mixed calls, against the model, in rooms of all kinds.
func TestMixedCalls(t *testing.T) {
	for seed, room := range []int{1, 2, 3, 5, 8, 16, 31, 32, 63, 64} {
		x, m, next := begin(t, room), &model{places: make([]cell, room)}, row(uint32(seed))
		for range 6000 {
			if got, want := calls(x, m, next); got != want {
				t.Fatalf("a call on a room of %d: %d, not %d", room, got, want)
			}
			agrees(t, x, m)
			finds(t, x, m, numbers(next), numbers(next))
		}
	}
}

// P9.1 and P9.2: one TLB's calls leave another one alone.
func TestTwo(t *testing.T) {
	a, b := mixed(t), mixed(t)
	before := b.List()
	a.Fill(slot(1, 2, 99))
	a.Drop(2, 1)
	a.DropAll(1)
	a.DropFrame(20)
	is(t, b, before...)
	a.Clear()
	is(t, b, before...)
	b.Fill(slot(5, 5, 5))
	is(t, a)
}

// P1: no call panics, whatever numbers it is handed, and an entry of far numbers goes by each way.
func TestAllArguments(t *testing.T) {
	for _, n := range far() {
		x := begin(t, 2)
		for _, k := range far() {
			x.Fill(slot(n, k, n))
			x.Find(k, n)
			x.Drop(k, k)
		}
		x.Fill(slot(n, n, n))
		if !x.Drop(n, n) {
			t.Errorf("Drop(%d, %d): nothing", n, n)
		}
		x.Clear()
		fill(x, slot(n, 1, 2), slot(1, n, 2))
		gone(t, "DropAll", x.DropAll(n), 1)
		is(t, x, slot(1, n, 2))
		fill(x, slot(3, 3, n))
		gone(t, "DropFrame", x.DropFrame(n), 1)
		is(t, x, slot(1, n, 2))
	}
}
