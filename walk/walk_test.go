package walk_test

import (
	"math"
	"slices"
	"testing"

	"warder/api"
	"warder/entry"
	"warder/phys"
	"warder/walk"
)

// The bits of an entry's word.
const (
	valid = 1
	write = 2
	exec  = 4
	block = 8
)

// cell: the word of an entry with these bits and a frame's number (0 to 65,535).
func cell(bits, frame int) uint32 { return uint32(256*frame + bits) }

// begin: a memory of so many frames.
func begin(t *testing.T, frames int) *phys.Mem {
	t.Helper()
	m, e := phys.New(frames)
	if e != api.OK || m == nil {
		t.Fatalf("New(%d): %v", frames, e)
	}
	return m
}

// put lays a word at an index of a table.
func put(t *testing.T, m *phys.Mem, table, index int, w uint32) {
	t.Helper()
	if !m.PutWord(uint32(256*table+4*index), w) {
		t.Fatalf("no index %d of the frame %d", index, table)
	}
}

// at: the address of two indexes and an offset.
func at(first, second, offset int) uint32 { return uint32(16384*first + 256*second + offset) }

// row: numbers that differ, the same each time.
func row(seed uint32) func(n int) int {
	return func(n int) int {
		seed = seed*1664525 + 1013904223
		return int(seed>>8) % n
	}
}

// accesses: those that are some, their neighbours, and numbers whose lowest bits are theirs.
func accesses() []int {
	return []int{0, 1, 2, 3, 4, 5, -1, -2, -3, 256, 257, 258, 1 << 32, 1<<32 + 1, 1<<32 + 2, math.MinInt, math.MinInt + 1, math.MinInt + 2, math.MaxInt - 1, math.MaxInt}
}

// farFrames: numbers of frames that a memory of so many hasn't, ones whose addresses go round at 2^32 and at 2^64 among them.
func farFrames(frames int) []int {
	return []int{-1, -2, -frames, -1024, math.MinInt32, math.MinInt, math.MinInt + 1, math.MinInt + 5, frames, frames + 1, frames + 5, 1024, 1025, 65535, 65536,
		1 << 24, 1<<24 + 1, 1<<24 + 5, 1 << 30, math.MaxInt32, 1 << 32, 1<<32 + 5, 1 << 56, 1<<56 + 5, 1 << 62, math.MaxInt - 1, math.MaxInt}
}

// noAddresses: addresses that are none, ones whose lowest 20 bits are those of good ones among them.
func noAddresses() []uint32 {
	list := []uint32{1 << 20, 1<<20 + 1, 1<<20 + 255, 1<<20 + 256, 1<<20 + 0x4000, 1<<21 - 1, 1 << 21, 1<<24 + 0x4000, 1<<31 - 1, 1 << 31, 1<<31 + 0x100, 0xfff00000, 0xfff04000, math.MaxUint32 - 1, math.MaxUint32}
	for bit := 20; bit < 32; bit++ {
		list = append(list, 1<<bit)
	}
	return list
}

// is holds one walk against what it should come to.
func is(t *testing.T, m *phys.Mem, root int, addr uint32, access int, want walk.Hit) {
	t.Helper()
	if h := walk.Walk(m, root, addr, access); h != want {
		t.Errorf("Walk(%d, %#x, %d) of %d frames: %+v, not %+v", root, addr, access, m.Frames(), h, want)
	}
}

// read: the word at an index of a table, by its bytes.
func read(m *phys.Mem, table, index int) int {
	b, _ := m.Frame(table)
	return int(b[4*index]) + int(b[4*index+1])<<8 + int(b[4*index+2])<<16 + int(b[4*index+3])<<24
}

// model: a walk, told step by step by sums.
func model(m *phys.Mem, root int, addr uint32, access int) walk.Hit {
	if addr >= 1<<20 {
		return walk.Hit{Fault: 1}
	}
	if root < 0 || root >= m.Frames() {
		return walk.Hit{Fault: 5}
	}
	w, index, reads := read(m, root, int(addr/16384)), int(addr/256%64), 1
	if w%2 == 0 {
		return walk.Hit{Fault: 2, Reads: 1}
	}
	isBlock := w/8%2 == 1
	frame := w / 256 % 65536
	if isBlock {
		frame += index
	} else {
		if frame >= m.Frames() {
			return walk.Hit{Fault: 5, Reads: 1}
		}
		w, reads = read(m, frame, index), 2
		if w%2 == 0 {
			return walk.Hit{Fault: 3, Reads: 2}
		}
		frame = w / 256 % 65536
	}
	mayWrite, mayExec := w/2%2 == 1, w/4%2 == 1
	switch {
	case !(access == 0 || access == 1 && mayWrite || access == 2 && mayExec):
		return walk.Hit{Fault: 4, Reads: reads}
	case frame >= m.Frames():
		return walk.Hit{Fault: 5, Reads: reads}
	}
	return walk.Hit{Reads: reads, Frame: frame, Write: mayWrite, Exec: mayExec, Block: isBlock}
}

// modelLook: the entry of a page, by the model's walk.
func modelLook(m *phys.Mem, root, page int) (entry.Entry, bool) {
	if page < 0 || page > 4095 {
		return entry.Entry{}, false
	}
	h := model(m, root, uint32(256*page), 0)
	if h.Fault != 0 {
		return entry.Entry{}, false
	}
	return entry.Entry{Valid: true, Write: h.Write, Exec: h.Exec, Block: h.Block, Frame: h.Frame}, true
}

// looks holds one Look against these.
func looks(t *testing.T, m *phys.Mem, root, page int, want entry.Entry, there bool) {
	t.Helper()
	if e, ok := walk.Look(m, root, page); e != want || ok != there {
		t.Errorf("Look(%d, %d) of %d frames: %+v %t, not %+v %t", root, page, m.Frames(), e, ok, want, there)
	}
}

// paged holds the pages of a table against these.
func paged(t *testing.T, m *phys.Mem, root int, want []int) {
	t.Helper()
	if list := walk.Pages(m, root); !slices.Equal(list, want) {
		t.Errorf("Pages(%d) of %d frames: %v, not %v", root, m.Frames(), list, want)
	}
}

// table: a memory of 100 frames: a first table in the frame 5, a second one in the frame 6, which names frames in memory and ones that aren't.
func table(t *testing.T) *phys.Mem {
	t.Helper()
	m := begin(t, 100)
	put(t, m, 5, 0, cell(valid, 6))
	put(t, m, 5, 1, cell(valid|write|block, 30))
	put(t, m, 5, 2, cell(valid|exec|block, 64))
	put(t, m, 5, 3, cell(valid, 100))
	put(t, m, 5, 4, cell(valid|write|exec, 65535))
	put(t, m, 5, 5, cell(write|exec, 6))
	put(t, m, 5, 63, cell(valid, 6))
	put(t, m, 6, 0, cell(valid|exec, 9))
	put(t, m, 6, 1, cell(valid|write|block, 10))
	put(t, m, 6, 2, cell(write|exec|block, 9))
	put(t, m, 6, 3, cell(valid, 100))
	put(t, m, 6, 63, cell(valid|write|exec, 99))
	return m
}

// P7.1: the numbers of the faults.
func TestFaults(t *testing.T) {
	list := []int{walk.FNone, walk.FAddr, walk.FFirst, walk.FSecond, walk.FAccess, walk.FBus}
	if !slices.Equal(list, []int{0, 1, 2, 3, 4, 5}) {
		t.Error(list)
	}
}

// P7.1, the chapter's example: a first table of noughts.
func TestExample(t *testing.T) {
	m := begin(t, 1)
	for _, addr := range []uint32{0, 1, 0x45678, 1<<20 - 1} {
		for _, access := range accesses() {
			is(t, m, 0, addr, access, walk.Hit{Fault: walk.FFirst, Reads: 1})
		}
	}
}

// P7.1, Walk: by hand, at blocks and second tables.
func TestWalkByHand(t *testing.T) {
	m := table(t)
	for _, c := range []struct {
		addr   uint32
		access int
		want   walk.Hit
	}{
		{at(0, 0, 0x12), entry.ARead, walk.Hit{Reads: 2, Frame: 9, Exec: true}},
		{at(0, 0, 0x12), entry.AExec, walk.Hit{Reads: 2, Frame: 9, Exec: true}},
		{at(0, 0, 0x12), entry.AWrite, walk.Hit{Fault: walk.FAccess, Reads: 2}},
		{at(0, 1, 0xff), entry.AWrite, walk.Hit{Reads: 2, Frame: 10, Write: true}},
		{at(0, 1, 0xff), entry.AExec, walk.Hit{Fault: walk.FAccess, Reads: 2}},
		{at(0, 2, 0), entry.ARead, walk.Hit{Fault: walk.FSecond, Reads: 2}},
		{at(0, 3, 0), entry.ARead, walk.Hit{Fault: walk.FBus, Reads: 2}},
		{at(0, 62, 255), entry.ARead, walk.Hit{Fault: walk.FSecond, Reads: 2}},
		{at(0, 63, 255), entry.AWrite, walk.Hit{Reads: 2, Frame: 99, Write: true, Exec: true}},
		{at(1, 0, 0), entry.AWrite, walk.Hit{Reads: 1, Frame: 30, Write: true, Block: true}},
		{at(1, 63, 255), entry.ARead, walk.Hit{Reads: 1, Frame: 93, Write: true, Block: true}},
		{at(1, 63, 255), entry.AExec, walk.Hit{Fault: walk.FAccess, Reads: 1}},
		{at(2, 35, 0), entry.AExec, walk.Hit{Reads: 1, Frame: 99, Exec: true, Block: true}},
		{at(2, 36, 0), entry.AExec, walk.Hit{Fault: walk.FBus, Reads: 1}},
		{at(3, 0, 0), entry.ARead, walk.Hit{Fault: walk.FBus, Reads: 1}},
		{at(4, 63, 0), entry.ARead, walk.Hit{Fault: walk.FBus, Reads: 1}},
		{at(5, 0, 0), entry.ARead, walk.Hit{Fault: walk.FFirst, Reads: 1}},
		{at(6, 0, 0), entry.ARead, walk.Hit{Fault: walk.FFirst, Reads: 1}},
		{at(63, 63, 255), entry.AExec, walk.Hit{Reads: 2, Frame: 99, Write: true, Exec: true}},
	} {
		is(t, m, 5, c.addr, c.access, c.want)
	}
}

// P7.1, Walk: an address that is none, ahead of all else, whatever the root, the table and the access.
func TestNoAddress(t *testing.T) {
	m := table(t)
	for first := range 64 {
		put(t, m, 7, first, cell(valid|write|exec|block, 0))
	}
	roots := append([]int{0, 5, 6, 7, 99}, farFrames(100)...)
	for _, addr := range noAddresses() {
		for _, root := range roots {
			for _, access := range accesses() {
				is(t, m, root, addr, access, walk.Hit{Fault: walk.FAddr})
			}
		}
	}
	is(t, m, 7, 1<<20-1, entry.ARead, walk.Hit{Reads: 1, Frame: 63, Write: true, Exec: true, Block: true})
}

// P7.1, Walk: a first table that isn't in memory: no entry is read.
func TestRootNotThere(t *testing.T) {
	for _, frames := range []int{1, 6, 100, 1023} {
		m := begin(t, frames)
		for n := range frames {
			for index := range 64 {
				put(t, m, n, index, cell(valid|write|exec|block, 0))
			}
		}
		for _, root := range farFrames(frames) {
			for _, addr := range []uint32{0, 1, 0x4000, 1<<20 - 1} {
				for _, access := range []int{-1, 0, 1, 2, 3} {
					is(t, m, root, addr, access, walk.Hit{Fault: walk.FBus})
				}
			}
		}
	}
}

// P7.1, Walk: the first frame, a middle and the last one of a memory are first tables.
func TestRoots(t *testing.T) {
	for _, frames := range []int{1, 2, 100, 1024} {
		for _, root := range []int{0, frames / 2, frames - 1} {
			m := begin(t, frames)
			put(t, m, root, 0, cell(valid|block, 0))
			put(t, m, root, 63, cell(valid|write|block, frames-1))
			is(t, m, root, 0, entry.ARead, walk.Hit{Reads: 1, Block: true})
			is(t, m, root, at(63, 0, 255), entry.AWrite, walk.Hit{Reads: 1, Frame: frames - 1, Write: true, Block: true})
			is(t, m, root, at(63, 1, 0), entry.AWrite, walk.Hit{Fault: walk.FBus, Reads: 1})
		}
	}
}

// P7.1, Walk: a first entry that isn't valid, whatever it has else: one read, and FFirst ahead of what its frame and its rights would bring.
func TestFirstNotValid(t *testing.T) {
	m := begin(t, 10)
	for _, bits := range []int{0, write, exec, block, write | exec, write | block, exec | block, write | exec | block} {
		for _, frame := range []int{0, 1, 9, 10, 1024, 65535} {
			for _, silent := range []uint32{0, 0xf0, 0xff000000, 0xff0000f0} {
				put(t, m, 3, 17, cell(bits, frame)|silent)
				for _, access := range accesses() {
					is(t, m, 3, at(17, 0, 0), access, walk.Hit{Fault: walk.FFirst, Reads: 1})
					is(t, m, 3, at(17, 63, 255), access, walk.Hit{Fault: walk.FFirst, Reads: 1})
				}
			}
		}
	}
}

// P7.1, Walk: a second table that isn't in memory: one read, and FBus ahead of what isn't allowed; the last frame is still one.
func TestSecondTableNotThere(t *testing.T) {
	for _, frames := range []int{1, 2, 100, 1023, 1024} {
		m := begin(t, frames)
		for _, frame := range []int{frames, frames + 1, 1024, 1025, 32768, 65534, 65535} {
			for _, bits := range []int{valid, valid | write, valid | exec, valid | write | exec} {
				put(t, m, 0, 20, cell(bits, frame))
				for _, access := range accesses() {
					is(t, m, 0, at(20, 0, 0), access, walk.Hit{Fault: walk.FBus, Reads: 1})
					is(t, m, 0, at(20, 63, 255), access, walk.Hit{Fault: walk.FBus, Reads: 1})
				}
			}
		}
		put(t, m, 0, 20, cell(valid, frames-1))
		is(t, m, 0, at(20, 63, 0), entry.AWrite, walk.Hit{Fault: walk.FSecond, Reads: 2})
	}
}

// P7.1, Walk: a second entry that isn't valid, whatever it has else: two reads, and FSecond ahead of what its frame and its rights would bring.
func TestSecondNotValid(t *testing.T) {
	m := begin(t, 10)
	put(t, m, 3, 17, cell(valid|write|exec, 4))
	for _, bits := range []int{0, write, exec, block, write | exec, write | block, exec | block, write | exec | block} {
		for _, frame := range []int{0, 1, 9, 10, 1024, 65535} {
			for _, silent := range []uint32{0, 0xf0, 0xff000000, 0xff0000f0} {
				put(t, m, 4, 22, cell(bits, frame)|silent)
				for _, access := range accesses() {
					is(t, m, 3, at(17, 22, 0), access, walk.Hit{Fault: walk.FSecond, Reads: 2})
				}
			}
		}
	}
}

// P7.1, Walk: the block bit of a second entry tells nothing: its frame is its own, without the index, and it is no block.
func TestSecondBlockBit(t *testing.T) {
	m := begin(t, 100)
	put(t, m, 3, 17, cell(valid, 4))
	for _, second := range []int{0, 1, 22, 63} {
		for _, bits := range []int{valid, valid | block} {
			put(t, m, 4, second, cell(bits|write, 50))
			is(t, m, 3, at(17, second, 9), entry.AWrite, walk.Hit{Reads: 2, Frame: 50, Write: true})
			looks(t, m, 3, 17*64+second, entry.Entry{Valid: true, Write: true, Frame: 50}, true)
			put(t, m, 4, second, cell(bits, 99))
			is(t, m, 3, at(17, second, 9), entry.ARead, walk.Hit{Reads: 2, Frame: 99})
			put(t, m, 4, second, cell(bits, 100))
			is(t, m, 3, at(17, second, 9), entry.ARead, walk.Hit{Fault: walk.FBus, Reads: 2})
		}
	}
}

// P7.1, Walk: a block's Frame and the second index, added, are the frame, each in memory, or out of it, by the sum alone.
func TestBlocks(t *testing.T) {
	for _, frames := range []int{1, 63, 64, 65, 100, 1024} {
		m := begin(t, frames)
		for _, frame := range []int{0, 1, 30, 33, 62, 63, 64, 65, 99, 100, 960, 961, 1000, 1023, 1024, 65472, 65473, 65535} {
			put(t, m, 0, 9, cell(valid|exec|block, frame))
			for second := range 64 {
				want := walk.Hit{Fault: walk.FBus, Reads: 1}
				if frame+second < frames {
					want = walk.Hit{Reads: 1, Frame: frame + second, Exec: true, Block: true}
				}
				is(t, m, 0, at(9, second, 200), entry.ARead, want)
				is(t, m, 0, at(9, second, 200), entry.AExec, want)
				is(t, m, 0, at(9, second, 200), entry.AWrite, walk.Hit{Fault: walk.FAccess, Reads: 1})
			}
		}
	}
}

// allowed: does a mix of rights allow an access?
func allowed(bits, access int) bool {
	switch access {
	case 0:
		return true
	case 1:
		return bits&write != 0
	case 2:
		return bits&exec != 0
	}
	return false
}

// P7.1, Walk: each access, and ones that are none, at entries of every mix of rights, whose frames are in memory and aren't: what isn't allowed is told ahead of the bus.
func TestAccesses(t *testing.T) {
	m := begin(t, 100)
	put(t, m, 3, 17, cell(valid, 4))
	for bits := range 16 {
		for _, frame := range []int{0, 8, 99, 100, 65535} {
			put(t, m, 4, 0, cell(bits|valid, frame))
			put(t, m, 3, 0, cell(bits|valid|block, frame))
			for _, access := range accesses() {
				second := walk.Hit{Reads: 2, Frame: frame, Write: bits&write != 0, Exec: bits&exec != 0}
				first := walk.Hit{Reads: 1, Frame: frame, Write: bits&write != 0, Exec: bits&exec != 0, Block: true}
				if frame >= 100 {
					first, second = walk.Hit{Fault: walk.FBus, Reads: 1}, walk.Hit{Fault: walk.FBus, Reads: 2}
				}
				if !allowed(bits, access) {
					first, second = walk.Hit{Fault: walk.FAccess, Reads: 1}, walk.Hit{Fault: walk.FAccess, Reads: 2}
				}
				is(t, m, 3, at(0, 0, 77), access, first)
				is(t, m, 3, at(17, 0, 77), access, second)
			}
		}
	}
}

// P7.1, Walk: the rights of a first entry that names a second table neither give nor take anything.
func TestFirstRights(t *testing.T) {
	m := begin(t, 10)
	for _, first := range []int{valid, valid | write, valid | exec, valid | write | exec} {
		for _, second := range []int{valid, valid | write, valid | exec, valid | write | exec} {
			put(t, m, 3, 17, cell(first, 4))
			put(t, m, 4, 22, cell(second, 9))
			for _, access := range accesses() {
				want := walk.Hit{Reads: 2, Frame: 9, Write: second&write != 0, Exec: second&exec != 0}
				if !allowed(second, access) {
					want = walk.Hit{Fault: walk.FAccess, Reads: 2}
				}
				is(t, m, 3, at(17, 22, 1), access, want)
			}
		}
	}
}

// P7.1, Walk: the bits of a word that tell nothing bring nothing, in first and second entries.
func TestSilentBits(t *testing.T) {
	m := begin(t, 100)
	for _, bit := range []int{4, 5, 6, 7, 24, 25, 26, 27, 28, 29, 30, 31} {
		put(t, m, 3, 17, cell(valid, 4)|1<<bit)
		put(t, m, 3, 18, cell(valid|write|block, 30)|1<<bit)
		put(t, m, 4, 22, cell(valid|exec, 9)|1<<bit)
		is(t, m, 3, at(17, 22, 0), entry.ARead, walk.Hit{Reads: 2, Frame: 9, Exec: true})
		is(t, m, 3, at(17, 22, 0), entry.AWrite, walk.Hit{Fault: walk.FAccess, Reads: 2})
		is(t, m, 3, at(18, 5, 0), entry.ARead, walk.Hit{Reads: 1, Frame: 35, Write: true, Block: true})
	}
}

// P7.1, Walk: each index finds its own entry, in first and second tables, whatever the offset.
func TestEachIndex(t *testing.T) {
	m := begin(t, 200)
	for n := range 64 {
		put(t, m, 7, n, cell(valid|block, n))
		put(t, m, 8, n, cell(valid, 9))
		put(t, m, 9, n, cell(valid|write, 100+n))
	}
	for n := range 64 {
		for _, offset := range []int{0, 1, 128, 255} {
			is(t, m, 7, at(n, 0, offset), entry.ARead, walk.Hit{Reads: 1, Frame: n, Block: true})
			is(t, m, 8, at(63-n, n, offset), entry.AWrite, walk.Hit{Reads: 2, Frame: 100 + n, Write: true})
		}
	}
}

// P7.1: a table whose second table is the first one itself: its entries are read as second ones, the block bit too.
func TestItself(t *testing.T) {
	m := begin(t, 10)
	put(t, m, 2, 0, cell(valid|write, 2))
	put(t, m, 2, 1, cell(valid|block|exec, 1))
	put(t, m, 2, 2, cell(valid, 9))
	is(t, m, 2, at(0, 0, 0), entry.AWrite, walk.Hit{Reads: 2, Frame: 2, Write: true})
	is(t, m, 2, at(0, 1, 0), entry.AExec, walk.Hit{Reads: 2, Frame: 1, Exec: true})
	is(t, m, 2, at(0, 3, 0), entry.ARead, walk.Hit{Fault: walk.FSecond, Reads: 2})
	is(t, m, 2, at(1, 8, 0), entry.AExec, walk.Hit{Reads: 1, Frame: 9, Exec: true, Block: true})
	is(t, m, 2, at(1, 9, 0), entry.AExec, walk.Hit{Fault: walk.FBus, Reads: 1})
	is(t, m, 2, at(2, 0, 0), entry.ARead, walk.Hit{Fault: walk.FSecond, Reads: 2})
	looks(t, m, 2, 0, entry.Entry{Valid: true, Write: true, Frame: 2}, true)
	looks(t, m, 2, 1, entry.Entry{Valid: true, Exec: true, Frame: 1}, true)
	paged(t, m, 2, []int{0, 1, 2, 64, 65, 66, 67, 68, 69, 70, 71, 72})

	every := begin(t, 1)
	all := make([]int, 4096)
	for n := range 64 {
		put(t, every, 0, n, cell(valid, 0))
	}
	for n := range all {
		all[n] = n
	}
	paged(t, every, 0, all)
	is(t, every, 0, 1<<20-1, entry.ARead, walk.Hit{Reads: 2})
}

// farPages: numbers that are no page, ones whose addresses go round to a page's among them.
func farPages() []int {
	return []int{-1, -2, -64, -4096, -4095, math.MinInt32, math.MinInt, math.MinInt + 1, 4096, 4097, 4160, 8191, 8192, 65536, 1 << 24, 1<<24 + 1, 1 << 32, 1<<32 + 1, 1 << 40, 1 << 56, 1<<56 + 1, 1 << 62, math.MaxInt - 1, math.MaxInt}
}

// P7.1, Look: pages of blocks and of second tables, each with its own frame, the first and the last one among them.
func TestLook(t *testing.T) {
	m := table(t)
	for _, c := range []struct {
		page int
		want entry.Entry
	}{
		{0, entry.Entry{Valid: true, Exec: true, Frame: 9}},
		{1, entry.Entry{Valid: true, Write: true, Frame: 10}},
		{63, entry.Entry{Valid: true, Write: true, Exec: true, Frame: 99}},
		{64, entry.Entry{Valid: true, Write: true, Block: true, Frame: 30}},
		{65, entry.Entry{Valid: true, Write: true, Block: true, Frame: 31}},
		{127, entry.Entry{Valid: true, Write: true, Block: true, Frame: 93}},
		{128, entry.Entry{Valid: true, Exec: true, Block: true, Frame: 64}},
		{128 + 35, entry.Entry{Valid: true, Exec: true, Block: true, Frame: 99}},
		{63 * 64, entry.Entry{Valid: true, Exec: true, Frame: 9}},
		{4095, entry.Entry{Valid: true, Write: true, Exec: true, Frame: 99}},
	} {
		looks(t, m, 5, c.page, c.want, true)
	}
	put(t, m, 8, 0, cell(valid|block, 0))
	looks(t, m, 8, 0, entry.Entry{Valid: true, Block: true}, true)
}

// P7.1, Look: noughts and false of what is no page, and where a walk faults.
func TestLookNothing(t *testing.T) {
	m := table(t)
	full := begin(t, 64)
	for n := range 64 {
		put(t, full, 0, n, cell(valid|write|exec|block, 0))
	}
	for _, page := range farPages() {
		looks(t, m, 5, page, entry.Entry{}, false)
		looks(t, full, 0, page, entry.Entry{}, false)
		looks(t, full, 64, page, entry.Entry{}, false)
	}
	for _, page := range []int{2, 3, 4, 62, 128 + 36, 191, 192, 256, 319, 320, 4032 + 2, 4094} {
		looks(t, m, 5, page, entry.Entry{}, false)
	}
	for _, root := range farFrames(64) {
		for _, page := range []int{0, 1, 64, 4095} {
			looks(t, full, root, page, entry.Entry{}, false)
		}
	}
	looks(t, begin(t, 1), 0, 0, entry.Entry{}, false)
}

// run: numbers one behind the other, from one on, so many.
func run(from, n int) []int {
	list := make([]int, n)
	for i := range list {
		list[i] = from + i
	}
	return list
}

// P7.1, Pages: none, single ones, and blocks, whole or cut off by the memory's end, rising, whatever their frames.
func TestPages(t *testing.T) {
	paged(t, begin(t, 1), 0, nil)
	paged(t, begin(t, 1024), 1023, nil)

	m := begin(t, 300)
	for _, page := range []int{4095, 0, 1000, 63} {
		put(t, m, 2, page/64, cell(valid, 10+page/64))
		put(t, m, 10+page/64, page%64, cell(valid|write, 299-page/64))
	}
	paged(t, m, 2, []int{0, 63, 1000, 4095})

	put(t, m, 2, 5, cell(valid|block, 236))
	put(t, m, 2, 7, cell(valid|block, 237))
	put(t, m, 2, 6, cell(valid|block, 299))
	put(t, m, 2, 8, cell(valid|block, 300))
	put(t, m, 2, 9, cell(valid, 300))
	put(t, m, 2, 4, cell(write|exec|block, 0))
	put(t, m, 12, 1, cell(valid, 300))
	put(t, m, 10, 1, cell(write, 1))
	want := slices.Concat([]int{0, 63}, run(320, 64), []int{384}, run(448, 63), []int{1000, 4095})
	paged(t, m, 2, want)

	for _, root := range farFrames(300) {
		paged(t, m, root, nil)
	}
}

// P7.1, Pages: every page, by blocks alone.
func TestPagesAll(t *testing.T) {
	m := begin(t, 64)
	for n := range 64 {
		put(t, m, 63, n, cell(valid|block, 0))
	}
	paged(t, m, 63, run(0, 4096))
	put(t, m, 63, 1, cell(valid|block, 1))
	paged(t, m, 63, slices.Concat(run(0, 127), run(128, 4096-128)))
}

// P7.1, Pages: what is answered is new memory, spare room too.
func TestPagesMemory(t *testing.T) {
	m := table(t)
	first, second := walk.Pages(m, 5), walk.Pages(m, 5)
	want := slices.Clone(second)
	spare := first[:cap(first)]
	for i := range spare {
		spare[i] = -7
	}
	if !slices.Equal(second, want) || !slices.Equal(walk.Pages(m, 5), want) {
		t.Error("answers share memory")
	}
	put(t, m, 5, 1, 0)
	if !slices.Equal(second, want) {
		t.Error("an answer is changed with its memory")
	}
}

// mixed: a memory whose first frames are tables of entries of all kinds.
func mixed(t *testing.T, seed uint32, frames int) *phys.Mem {
	t.Helper()
	m, next := begin(t, frames), row(seed)
	for n := range min(frames, 6) {
		for index := range 64 {
			frame := next(min(frames, 6))
			switch next(4) {
			case 0:
				frame = next(frames + 2)
			case 1:
				frame = next(65536)
			}
			bits := next(256)
			if next(3) > 0 {
				bits |= valid
			}
			put(t, m, n, index, cell(bits, frame)|uint32(next(256))<<24)
		}
	}
	return m
}

// P7.1: Walk and Look as the model, and Pages as Look, in many mixed tables.
func TestMixed(t *testing.T) {
	faults := [6]int{}
	for seed := range uint32(12) {
		frames := []int{1, 2, 6, 64, 100, 1024}[seed%6]
		m, next := mixed(t, seed, frames), row(seed+1000)
		for root := range min(frames, 3) {
			var told []int
			for page := range 4096 {
				for _, access := range []int{0, 1, 2, 3, -1} {
					addr := uint32(256*page + next(256))
					want := model(m, root, addr, access)
					faults[want.Fault]++
					if h := walk.Walk(m, root, addr, access); h != want {
						t.Fatalf("Walk(%d, %#x, %d) of %d frames: %+v, not %+v", root, addr, access, frames, h, want)
					}
				}
				want, there := modelLook(m, root, page)
				looks(t, m, root, page, want, there)
				if there {
					told = append(told, page)
				}
			}
			paged(t, m, root, told)
		}
	}
	for _, fault := range []int{walk.FNone, walk.FFirst, walk.FSecond, walk.FAccess, walk.FBus} {
		if faults[fault] == 0 {
			t.Errorf("no walk with the fault %d", fault)
		}
	}
}

// allBytes: all bytes of a memory.
func allBytes(m *phys.Mem) []byte {
	var all []byte
	for n := range m.Frames() {
		b, _ := m.Frame(n)
		all = append(all, b...)
	}
	return all
}

// calls does every call at arguments of all kinds.
func calls(m *phys.Mem) {
	roots := append([]int{0, 1, 5, m.Frames() - 1}, farFrames(m.Frames())...)
	addrs := append([]uint32{0, 1, 0x4000, 0x45678, 1<<20 - 1}, noAddresses()...)
	pages := append([]int{0, 1, 63, 64, 4095}, farPages()...)
	for _, root := range roots {
		for _, addr := range addrs {
			for _, access := range accesses() {
				walk.Walk(m, root, addr, access)
			}
		}
		for _, page := range pages {
			walk.Look(m, root, page)
		}
		walk.Pages(m, root)
	}
}

// P7.2, and P1: no call changes a byte of the memory, nor of a clone of it, nor panics, at arguments of all kinds.
func TestNothingChanged(t *testing.T) {
	for _, frames := range []int{1, 6, 100} {
		m := mixed(t, 7, frames)
		c := m.Clone()
		before := allBytes(m)
		calls(m)
		if !slices.Equal(allBytes(m), before) || !slices.Equal(allBytes(c), before) {
			t.Errorf("a memory of %d frames is changed", frames)
		}
		calls(c)
		if len(m.Differ(c)) != 0 || !slices.Equal(allBytes(c), before) || !slices.Equal(allBytes(m), before) {
			t.Errorf("a clone of %d frames is changed", frames)
		}
	}
}

// P7.2: nothing is kept: a changed entry is told anew, and a memory's clone goes its own way.
func TestNothingKept(t *testing.T) {
	m := table(t)
	c := m.Clone()
	looks(t, m, 5, 1, entry.Entry{Valid: true, Write: true, Frame: 10}, true)
	put(t, m, 6, 1, cell(valid|exec, 11))
	looks(t, m, 5, 1, entry.Entry{Valid: true, Exec: true, Frame: 11}, true)
	looks(t, c, 5, 1, entry.Entry{Valid: true, Write: true, Frame: 10}, true)
	put(t, m, 5, 0, 0)
	is(t, m, 5, at(0, 1, 0), entry.ARead, walk.Hit{Fault: walk.FFirst, Reads: 1})
	is(t, c, 5, at(0, 1, 0), entry.AWrite, walk.Hit{Reads: 2, Frame: 10, Write: true})
}
