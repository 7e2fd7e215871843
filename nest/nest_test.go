package nest_test

import (
	"math"
	"slices"
	"testing"

	"warder/api"
	"warder/entry"
	"warder/nest"
	"warder/phys"
	"warder/walk"
)

// The bits of an entry's word.
const (
	valid = 1
	write = 2
	exec  = 4
	block = 8
	all   = valid | write | exec
)

// cell: the word of an entry with these bits and a frame's, or a page's number (0 to 65,535).
func cell(bits, frame int) uint32 { return uint32(256*frame + bits) }

// begin: a memory of so many frames.
func begin(t *testing.T, frames int) *phys.Mem {
	t.Helper()
	m, e := phys.New(frames)
	if e != api.OK || m == nil {
		t.Fatalf("New(%d): %v", frames, e)
	}
	return m
}

// put lays a word at an index of a table in a frame.
func put(t *testing.T, m *phys.Mem, frame, index int, w uint32) {
	t.Helper()
	if !m.PutWord(uint32(256*frame+4*index), w) {
		t.Fatalf("no index %d of the frame %d", index, frame)
	}
}

// at: the address of two indexes and an offset.
func at(first, second, offset int) uint32 { return uint32(16384*first + 256*second + offset) }

// shift is how far a page's frame is from it in an even memory.
const shift = 10

// even: a memory of 1,024 frames, whose monitor's table in the frame 0 tells the pages 0 to 959 by blocks, each 10 frames on, with all rights.
func even(t *testing.T) *phys.Mem {
	t.Helper()
	m := begin(t, 1024)
	for n := range 15 {
		put(t, m, 0, n, cell(all|block, 64*n+shift))
	}
	return m
}

// lay lays a word at an index of the guest's table at a page of an even memory.
func lay(t *testing.T, m *phys.Mem, page, index int, w uint32) {
	t.Helper()
	put(t, m, page+shift, index, w)
}

// own: a fault of the guest's own stage.
func own(kind int, va uint32) nest.Fault { return nest.Fault{Stage: 1, Kind: kind, Addr: va} }

// second: a fault of the monitor's stage, at the va's own ipa.
func second(kind int, ipa uint32) nest.Fault { return nest.Fault{Stage: 2, Kind: kind, Addr: ipa} }

// table: a fault of the monitor's stage, on the way to a table's entry.
func table(kind int, ipa uint32) nest.Fault {
	return nest.Fault{Stage: 2, Kind: kind, Addr: ipa, Table: true}
}

// failed: what is told with a fault.
func failed(reads int, f nest.Fault) nest.Told { return nest.Told{Fault: f, Reads: reads} }

// is holds one translation through the table in the frame 0 against what it should tell.
func is(t *testing.T, m *phys.Mem, root, va uint32, access int, want nest.Told) {
	t.Helper()
	through(t, m, root, 0, va, access, want)
}

// through holds one translation against what it should tell.
func through(t *testing.T, m *phys.Mem, root uint32, frame int, va uint32, access int, want nest.Told) {
	t.Helper()
	if x := nest.Translate(m, root, frame, va, access); x != want {
		t.Errorf("Translate(%#x, %d, %#x, %d) of %d frames: %+v, not %+v", root, frame, va, access, m.Frames(), x, want)
	}
}

// row: numbers that differ, the same each time.
func row(seed uint32) func(n int) int {
	return func(n int) int {
		seed = seed*1664525 + 1013904223
		return int(seed>>8) % n
	}
}

// accesses: those that are some, their neighbours, and numbers whose lowest bits are theirs.
func accesses() []int {
	return []int{0, 1, 2, 3, 4, 5, -1, -2, -3, 256, 257, 258, 1 << 32, 1<<32 + 1, 1<<32 + 2, math.MinInt, math.MinInt + 1, math.MinInt + 2, math.MaxInt - 1, math.MaxInt}
}

// farFrames: numbers of frames that a memory of so many hasn't, ones whose addresses go round at 2^32 and at 2^64 among them.
func farFrames(frames int) []int {
	return []int{-1, -2, -frames, -1024, math.MinInt32, math.MinInt, math.MinInt + 1, math.MinInt + 5, frames, frames + 1, frames + 5, 1024, 1025, 65535, 65536,
		1 << 24, 1<<24 + 1, 1<<24 + 5, 1 << 30, math.MaxInt32, 1 << 32, 1<<32 + 5, 1 << 56, 1<<56 + 5, 1 << 62, math.MaxInt - 1, math.MaxInt}
}

// noAddresses: addresses that are none, ones whose lowest 20 bits are those of good ones among them.
func noAddresses() []uint32 {
	list := []uint32{1 << 20, 1<<20 + 1, 1<<20 + 255, 1<<20 + 256, 1<<20 + 0x4000, 1<<21 - 1, 1 << 21, 1<<24 + 0x4000, 1<<31 - 1, 1 << 31, 1<<31 + 0x100, 0xfff00000, 0xfff04000, math.MaxUint32 - 1, math.MaxUint32}
	for bit := 20; bit < 32; bit++ {
		list = append(list, 1<<bit)
	}
	return list
}

// farRoots: roots whose page is above 4,095, ones whose lowest bits are those of good ones among them.
func farRoots() []uint32 {
	list := []uint32{1 << 20, 1<<20 + 1, 1<<20 + 0xff, 1<<20 + 0x100, 1<<20 + 0x200, 1<<21 + 0x200, 1<<24 + 0x200, 1<<28 + 0x200, 1<<31 + 0x200, 0xfff00200, math.MaxUint32 - 255, math.MaxUint32}
	for bit := 20; bit < 32; bit++ {
		list = append(list, 1<<bit)
	}
	return list
}

// allowed: does a mix of rights allow an access?
func allowed(bits, access int) bool {
	switch access {
	case 0:
		return true
	case 1:
		return bits&write != 0
	case 2:
		return bits&exec != 0
	}
	return false
}

// word: the word at an address of a memory, by its bytes.
func word(m *phys.Mem, addr uint32) uint32 {
	b, _ := m.Frame(int(addr / 256))
	n := addr % 256
	return uint32(b[n]) + uint32(b[n+1])<<8 + uint32(b[n+2])<<16 + uint32(b[n+3])<<24
}

// model: a translation, told by the chapter's sentences one after the other.
func model(m *phys.Mem, root uint32, frame int, va uint32, access int) nest.Told {
	if va >= 1<<20 {
		return failed(0, own(1, va))
	}
	if root == 0 {
		h := walk.Walk(m, frame, va, access)
		if h.Fault != 0 {
			return failed(h.Reads, second(h.Fault, va))
		}
		return nest.Told{Reads: h.Reads, Page: int(va / 256), Addr: uint32(h.Frame)*256 + va%256, Write: h.Write, Exec: h.Exec}
	}
	page, index, reads := root/256, va/16384, 0
	var w uint32
	for stage := range 2 {
		if page > 4095 {
			return failed(reads, own(1, va))
		}
		ipa := page*256 + index*4
		h := walk.Walk(m, frame, ipa, 0)
		reads += h.Reads
		if h.Fault != 0 {
			return failed(reads, table(h.Fault, ipa))
		}
		w = word(m, uint32(h.Frame)*256+ipa%256)
		if w%2 == 0 {
			return failed(reads, own(2+stage, va))
		}
		page, index = w/256%65536, va/256%64
		if stage == 0 && w/8%2 == 1 {
			page += index
			break
		}
	}
	mayWrite, mayExec := w/2%2 == 1, w/4%2 == 1
	if !(access == 0 || access == 1 && mayWrite || access == 2 && mayExec) {
		return failed(reads, own(4, va))
	}
	if page > 4095 {
		return failed(reads, own(1, va))
	}
	ipa := page*256 + va%256
	h := walk.Walk(m, frame, ipa, access)
	reads += h.Reads
	if h.Fault != 0 {
		return failed(reads, second(h.Fault, ipa))
	}
	return nest.Told{Reads: reads, Page: int(page), Addr: uint32(h.Frame)*256 + va%256, Write: mayWrite && h.Write, Exec: mayExec && h.Exec}
}

// P8.1, the chapter's example: a root of 0, and a monitor's table of noughts.
func TestExample(t *testing.T) {
	m := begin(t, 1)
	for _, va := range []uint32{0, 1, 0x45678, 1<<20 - 1} {
		for _, access := range accesses() {
			is(t, m, 0, va, access, failed(1, second(walk.FFirst, va)))
		}
	}
	is(t, m, 0x200, 0, entry.ARead, failed(1, table(walk.FFirst, 0x200)))
}

// guest: an even memory, the guest's first table at the page 2, second ones at 3 and 4.
func guest(t *testing.T) *phys.Mem {
	t.Helper()
	m := even(t)
	put(t, m, 0, 14, cell(valid, 1))
	put(t, m, 1, 0, cell(valid|exec, 500))
	put(t, m, 1, 1, cell(valid|write, 501))
	put(t, m, 1, 2, cell(valid|exec, 1024))
	put(t, m, 0, 15, cell(valid, 1024))
	lay(t, m, 2, 0, cell(valid, 3))
	lay(t, m, 2, 1, cell(valid|write|block, 20))
	lay(t, m, 2, 2, cell(all|block, 4090))
	lay(t, m, 2, 3, cell(write|exec|block, 20))
	lay(t, m, 2, 4, cell(valid, 4096))
	lay(t, m, 2, 5, cell(valid, 896+2))
	lay(t, m, 2, 6, cell(valid, 896+3))
	lay(t, m, 2, 7, cell(valid, 960))
	lay(t, m, 2, 8, cell(valid, 1024))
	lay(t, m, 2, 63, cell(valid, 4))
	lay(t, m, 3, 0, cell(valid|exec, 100))
	lay(t, m, 3, 1, cell(all, 896))
	lay(t, m, 3, 2, cell(all, 897))
	lay(t, m, 3, 3, cell(write|exec, 100))
	lay(t, m, 3, 4, cell(valid|exec, 4096))
	lay(t, m, 4, 63, cell(all, 959-64))
	return m
}

// P8.1, Translate: by hand, through both kinds of entries of both stages.
func TestTranslateByHand(t *testing.T) {
	m := guest(t)
	for _, c := range []struct {
		va     uint32
		access int
		want   nest.Told
	}{
		{at(0, 0, 0x12), entry.ARead, nest.Told{Reads: 3, Page: 100, Addr: 110*256 + 0x12, Exec: true}},
		{at(0, 0, 0xff), entry.AExec, nest.Told{Reads: 3, Page: 100, Addr: 110*256 + 0xff, Exec: true}},
		{at(0, 0, 0x12), entry.AWrite, failed(2, own(walk.FAccess, 0x12))},
		{at(0, 1, 7), entry.AExec, nest.Told{Reads: 4, Page: 896, Addr: 500*256 + 7, Exec: true}},
		{at(0, 1, 7), entry.AWrite, failed(4, second(walk.FAccess, 896*256+7))},
		{at(0, 2, 7), entry.AWrite, nest.Told{Reads: 4, Page: 897, Addr: 501*256 + 7, Write: true}},
		{at(0, 3, 7), entry.ARead, failed(2, own(walk.FSecond, 0x307))},
		{at(0, 4, 7), entry.AExec, failed(2, own(walk.FAddr, 0x407))},
		{at(0, 4, 7), entry.AWrite, failed(2, own(walk.FAccess, 0x407))},
		{at(0, 63, 255), entry.ARead, failed(2, own(walk.FSecond, 0x3fff))},
		{at(1, 0, 0), entry.AWrite, nest.Told{Reads: 2, Page: 20, Addr: 30 * 256, Write: true}},
		{at(1, 63, 255), entry.ARead, nest.Told{Reads: 2, Page: 83, Addr: 93*256 + 255, Write: true}},
		{at(1, 63, 255), entry.AExec, failed(1, own(walk.FAccess, 0x7fff))},
		{at(2, 5, 0), entry.ARead, failed(2, second(walk.FFirst, 0xfff00))},
		{at(2, 6, 0), entry.ARead, failed(1, own(walk.FAddr, 0x8600))},
		{at(3, 5, 0), entry.ARead, failed(1, own(walk.FFirst, 0xc500))},
		{at(4, 5, 0), entry.ARead, failed(1, own(walk.FAddr, 0x10500))},
		{at(5, 5, 0), entry.ARead, failed(3, table(walk.FBus, 898*256+20))},
		{at(6, 5, 0), entry.ARead, failed(3, table(walk.FSecond, 899*256+20))},
		{at(7, 5, 0), entry.ARead, failed(2, table(walk.FBus, 960*256+20))},
		{at(8, 63, 0), entry.ARead, failed(2, table(walk.FFirst, 1024*256+252))},
		{at(9, 5, 0), entry.ARead, failed(1, own(walk.FFirst, 0x24500))},
		{at(63, 63, 255), entry.AExec, nest.Told{Reads: 3, Page: 895, Addr: 905*256 + 255, Write: true, Exec: true}},
	} {
		is(t, m, 0x200, c.va, c.access, c.want)
		is(t, m, 0x2a5, c.va, c.access, c.want)
	}
}

// P8.1, Translate: an address that is none, ahead of all else, whatever the root, the monitor's table and the access.
func TestNoAddress(t *testing.T) {
	m := even(t)
	for index := range 64 {
		lay(t, m, 2, index, cell(all|block, 0))
	}
	roots := append([]uint32{0, 1, 255, 256, 0x200, 0x2ff, 0x40000, 0xfffff}, farRoots()...)
	frames := append([]int{0, 12, 1023}, farFrames(1024)...)
	for _, va := range noAddresses() {
		for _, root := range roots {
			for _, frame := range frames {
				for _, access := range accesses() {
					through(t, m, root, frame, va, access, failed(0, own(walk.FAddr, va)))
				}
			}
		}
	}
	is(t, m, 0x200, 1<<20-1, entry.AExec, nest.Told{Reads: 2, Page: 63, Addr: 73*256 + 255, Write: true, Exec: true})
}

// P8.1, Translate: with a root of 0 an ipa is the va: its rights are those of the monitor's entry alone, blocks' and second tables', and what isn't allowed is a fault of Stage 2, also of an access that is none.
func TestNoTables(t *testing.T) {
	m := begin(t, 100)
	put(t, m, 5, 17, cell(valid, 6))
	for rights := range 4 {
		bits := valid | 2*rights
		put(t, m, 5, 18, cell(bits|block, 30))
		put(t, m, 6, 22, cell(bits, 9))
		for _, access := range accesses() {
			byTable := nest.Told{Reads: 2, Page: 17*64 + 22, Addr: 9*256 + 0x78, Write: bits&write != 0, Exec: bits&exec != 0}
			byBlock := nest.Told{Reads: 1, Page: 18*64 + 22, Addr: 52*256 + 0x78, Write: bits&write != 0, Exec: bits&exec != 0}
			if !allowed(bits, access) {
				byTable = failed(2, second(walk.FAccess, at(17, 22, 0x78)))
				byBlock = failed(1, second(walk.FAccess, at(18, 22, 0x78)))
			}
			through(t, m, 0, 5, at(17, 22, 0x78), access, byTable)
			through(t, m, 0, 5, at(18, 22, 0x78), access, byBlock)
		}
	}
}

// P8.1, Translate: with a root of 0 each of the walk's faults is one of Stage 2, of the va, and not met on the way to a table.
func TestNoTablesFaults(t *testing.T) {
	m := begin(t, 100)
	put(t, m, 5, 0, cell(valid, 6))
	put(t, m, 5, 1, cell(valid|block, 60))
	put(t, m, 5, 2, cell(valid, 100))
	put(t, m, 5, 3, cell(write|exec|block, 60))
	put(t, m, 6, 0, cell(valid, 100))
	put(t, m, 6, 1, cell(write|exec, 9))
	put(t, m, 6, 2, cell(valid, 9))
	for _, c := range []struct {
		va                   uint32
		access, reads, fault int
	}{
		{at(0, 0, 0), entry.ARead, 2, walk.FBus},
		{at(0, 0, 0), entry.AWrite, 2, walk.FAccess},
		{at(0, 1, 9), entry.ARead, 2, walk.FSecond},
		{at(0, 2, 255), entry.AExec, 2, walk.FAccess},
		{at(1, 40, 1), entry.ARead, 1, walk.FBus},
		{at(1, 39, 1), entry.AExec, 1, walk.FAccess},
		{at(2, 0, 1), entry.ARead, 1, walk.FBus},
		{at(3, 0, 1), entry.ARead, 1, walk.FFirst},
		{at(63, 63, 255), entry.ARead, 1, walk.FFirst},
	} {
		through(t, m, 0, 5, c.va, c.access, failed(c.reads, second(c.fault, c.va)))
	}
	through(t, m, 0, 5, at(1, 39, 1), entry.ARead, nest.Told{Reads: 1, Page: 103, Addr: 99*256 + 1})
}

// P8.1, Translate: a root whose lowest 8 bits alone are set isn't 0: the guest's first table stands at the page 0.
func TestRootLowBits(t *testing.T) {
	m := even(t)
	lay(t, m, 0, 0, cell(valid|exec|block, 500))
	lay(t, m, 0, 1, cell(valid, 7))
	lay(t, m, 7, 5, cell(valid|write, 3))
	is(t, m, 0, 0x34, entry.AWrite, nest.Told{Reads: 1, Addr: 10*256 + 0x34, Write: true, Exec: true})
	for root := range uint32(256) {
		if root == 0 {
			continue
		}
		is(t, m, root, 0x34, entry.ARead, nest.Told{Reads: 2, Page: 500, Addr: 510*256 + 0x34, Exec: true})
		is(t, m, root, 0x34, entry.AWrite, failed(1, own(walk.FAccess, 0x34)))
		is(t, m, root, 0x4534, entry.AWrite, nest.Told{Reads: 3, Page: 3, Addr: 13*256 + 0x34, Write: true})
		is(t, m, root, 0x8000, entry.ARead, failed(1, own(walk.FFirst, 0x8000)))
	}
}

// P8.1, Translate: a root's bits from the 8th on tell the page of the first table, whatever the lower ones.
func TestRootPages(t *testing.T) {
	for _, page := range []int{0, 1, 2, 255, 256, 257, 958, 959} {
		m := even(t)
		lay(t, m, page, 9, cell(valid|exec|block, 30))
		for _, low := range []uint32{0, 1, 4, 0x24, 0x80, 0xff} {
			root := uint32(256*page) + low
			if root == 0 {
				continue
			}
			is(t, m, root, at(9, 3, 4), entry.AExec, nest.Told{Reads: 2, Page: 33, Addr: 43*256 + 4, Exec: true})
			is(t, m, root, at(8, 3, 4), entry.AExec, failed(1, own(walk.FFirst, at(8, 3, 4))))
		}
	}
}

// P8.1, Translate: the page 4,095 may have the first table; one above is a fault of Stage 1, of the va, ahead of every other but an address's that is none, with nothing read.
func TestRootAbove(t *testing.T) {
	m := even(t)
	put(t, m, 0, 63, cell(valid, 1))
	put(t, m, 1, 63, cell(valid, 70))
	put(t, m, 70, 2, cell(all|block, 30))
	lay(t, m, 2, 2, cell(all|block, 30))
	lay(t, m, 0, 2, cell(all|block, 30))
	for _, root := range []uint32{0xfff00, 0xfffff} {
		is(t, m, root, at(2, 1, 8), entry.AWrite, nest.Told{Reads: 3, Page: 31, Addr: 41*256 + 8, Write: true, Exec: true})
	}
	for _, root := range farRoots() {
		for _, frame := range append([]int{0, 1, 70}, farFrames(1024)...) {
			for _, access := range accesses() {
				through(t, m, root, frame, at(2, 1, 8), access, failed(0, own(walk.FAddr, at(2, 1, 8))))
			}
		}
		is(t, m, root, 0, entry.ARead, failed(0, own(walk.FAddr, 0)))
	}
}

// gap is how a monitor's table doesn't tell a page: the words of its first and its second entry, the fault, and how many entries are read.
type gap struct {
	first, second uint32
	kind, reads   int
}

// gaps: ways in which a table of a memory of 1,024 frames doesn't tell the page 77 (first index 1, second index 13).
func gaps() []gap {
	return []gap{
		{0, cell(all, 90), walk.FFirst, 1},
		{cell(write|exec|block, 30), cell(all, 90), walk.FFirst, 1},
		{cell(all, 1024), 0, walk.FBus, 1},
		{cell(all, 65535), 0, walk.FBus, 1},
		{cell(all|block, 1011), 0, walk.FBus, 1},
		{cell(all|block, 65535), 0, walk.FBus, 1},
		{cell(all, 1), 0, walk.FSecond, 2},
		{cell(valid, 1), cell(write|exec|block, 90), walk.FSecond, 2},
		{cell(all, 1), cell(all, 1024), walk.FBus, 2},
		{cell(all, 1), cell(all, 65535), walk.FBus, 2},
	}
}

// P8.1, Translate: a first entry whose own place isn't told: a fault of Stage 2, of the entry's ipa, on the way to a table.
func TestFirstEntryLost(t *testing.T) {
	for _, c := range gaps() {
		m := even(t)
		put(t, m, 0, 1, c.first)
		put(t, m, 1, 13, c.second)
		for _, first := range []int{0, 1, 31, 63} {
			ipa := uint32(77*256 + 4*first)
			for _, access := range accesses() {
				is(t, m, 77*256, at(first, 5, 6), access, failed(c.reads, table(c.kind, ipa)))
				is(t, m, 77*256+255, at(first, 63, 255), access, failed(c.reads, table(c.kind, ipa)))
			}
		}
	}
}

// P8.1, Translate: a second entry whose own place isn't told, likewise, with what was read for the first one.
func TestSecondEntryLost(t *testing.T) {
	for _, c := range gaps() {
		m := even(t)
		put(t, m, 0, 1, c.first)
		put(t, m, 1, 13, c.second)
		lay(t, m, 2, 9, cell(valid, 77))
		for _, index := range []int{0, 1, 31, 63} {
			ipa := uint32(77*256 + 4*index)
			for _, access := range accesses() {
				is(t, m, 0x200, at(9, index, 6), access, failed(1+c.reads, table(c.kind, ipa)))
			}
		}
	}
}

// P8.1, Translate: a page that isn't told: a fault of Stage 2, of the va's ipa, not on the way to a table, with all that was read until then.
func TestPageLost(t *testing.T) {
	for _, c := range gaps() {
		m := even(t)
		put(t, m, 0, 1, c.first)
		put(t, m, 1, 13, c.second)
		lay(t, m, 2, 8, cell(all|block, 70))
		lay(t, m, 2, 9, cell(valid, 3))
		lay(t, m, 3, 5, cell(all, 77))
		for _, offset := range []int{0, 1, 20, 255} {
			ipa := uint32(77*256 + offset)
			for _, access := range []int{entry.ARead, entry.AWrite, entry.AExec} {
				is(t, m, 0, ipa, access, failed(c.reads, second(c.kind, ipa)))
				is(t, m, 0x200, at(8, 7, offset), access, failed(1+c.reads, second(c.kind, ipa)))
				is(t, m, 0x200, at(9, 5, offset), access, failed(2+c.reads, second(c.kind, ipa)))
			}
			for _, access := range []int{-1, 3, math.MinInt, math.MaxInt} {
				is(t, m, 0x200, at(8, 7, offset), access, failed(1, own(walk.FAccess, at(8, 7, offset))))
				is(t, m, 0x200, at(9, 5, offset), access, failed(2, own(walk.FAccess, at(9, 5, offset))))
			}
		}
	}
}

// P8.1, Translate: entries are read for ARead: tables at pages that the monitor's tables allow nothing more of serve every access.
func TestTablesAreRead(t *testing.T) {
	m := even(t)
	put(t, m, 0, 1, cell(valid|block, 74))
	lay(t, m, 64, 9, cell(valid, 65))
	lay(t, m, 64, 8, cell(all|block, 200))
	lay(t, m, 65, 5, cell(all, 300))
	for _, access := range []int{entry.ARead, entry.AWrite, entry.AExec} {
		is(t, m, 64*256, at(8, 5, 1), access, nest.Told{Reads: 2, Page: 205, Addr: 215*256 + 1, Write: true, Exec: true})
		is(t, m, 64*256, at(9, 5, 1), access, nest.Told{Reads: 3, Page: 300, Addr: 310*256 + 1, Write: true, Exec: true})
	}
}

// broken: words that are no valid entry, whatever they have else.
func broken() []uint32 {
	var list []uint32
	for _, bits := range []int{0, write, exec, block, write | exec, write | block, exec | block, write | exec | block} {
		for _, frame := range []int{0, 3, 4095, 4096, 65535} {
			for _, silent := range []uint32{0, 0xf0, 0xff000000, 0xff0000f0} {
				list = append(list, cell(bits, frame)|silent)
			}
		}
	}
	return list
}

// P8.1, Translate: entries that aren't valid: FFirst and FSecond, of the va, ahead of what their rights and their pages would bring.
func TestNotValid(t *testing.T) {
	m := even(t)
	lay(t, m, 2, 9, cell(all, 3))
	for _, w := range broken() {
		lay(t, m, 2, 8, w)
		lay(t, m, 3, 5, w)
		for _, access := range accesses() {
			is(t, m, 0x200, at(8, 0, 0), access, failed(1, own(walk.FFirst, at(8, 0, 0))))
			is(t, m, 0x200, at(8, 63, 255), access, failed(1, own(walk.FFirst, at(8, 63, 255))))
			is(t, m, 0x200, at(9, 5, 77), access, failed(2, own(walk.FSecond, at(9, 5, 77))))
		}
	}
}

// told: a memory whose monitor's table in the frame 0 tells every page by blocks of the frames from 8 on, with all rights; the guest's first table at the page 0 (the frame 8).
func told(t *testing.T) *phys.Mem {
	t.Helper()
	m := begin(t, 100)
	for n := range 64 {
		put(t, m, 0, n, cell(all|block, 8))
	}
	return m
}

// P8.1, Translate: a block's Frame and the second index, added, are the page, up to 4,095; above that FAddr, behind what isn't allowed.
func TestBlocks(t *testing.T) {
	m := told(t)
	for _, page := range []int{1, 2, 64, 500, 4031, 4032, 4033, 4094, 4095, 4096, 4097, 8191, 16384, 65472, 65473, 65534, 65535} {
		put(t, m, 8, 9, cell(valid|exec|block, page))
		for index := range 64 {
			va, sum := at(9, index, 200), page+index
			want := failed(1, own(walk.FAddr, va))
			if sum <= 4095 {
				want = nest.Told{Reads: 2, Page: sum, Addr: uint32((8+sum%64)*256 + 200), Exec: true}
			}
			is(t, m, 1, va, entry.ARead, want)
			is(t, m, 1, va, entry.AExec, want)
			for _, access := range []int{entry.AWrite, -1, 3, 1 << 32} {
				is(t, m, 1, va, access, failed(1, own(walk.FAccess, va)))
			}
		}
	}
}

// P8.1, Translate: a second table at a page above 4,095: FAddr, of the va, with the first entry's reads, ahead of what isn't allowed; at 4,095 it is read.
func TestSecondTableAbove(t *testing.T) {
	m := told(t)
	put(t, m, 8+63, 5, cell(valid|write, 30))
	for _, bits := range []int{valid, valid | write, valid | exec, all} {
		for _, page := range []int{4096, 4097, 4159, 8191, 32768, 61440, 65535} {
			put(t, m, 8, 9, cell(bits, page))
			for _, access := range accesses() {
				is(t, m, 1, at(9, 0, 0), access, failed(1, own(walk.FAddr, at(9, 0, 0))))
				is(t, m, 1, at(9, 63, 255), access, failed(1, own(walk.FAddr, at(9, 63, 255))))
			}
		}
		put(t, m, 8, 9, cell(bits, 4095))
		is(t, m, 1, at(9, 5, 1), entry.AWrite, nest.Told{Reads: 3, Page: 30, Addr: 38*256 + 1, Write: true})
	}
}

// P8.1, Translate: a second entry's Frame above 4,095: FAddr, of the va, behind what isn't allowed; 4,095 is a page.
func TestPageAbove(t *testing.T) {
	m := told(t)
	put(t, m, 8, 9, cell(valid, 1))
	for bits := range 16 {
		bits |= valid
		for _, page := range []int{4094, 4095, 4096, 4097, 8191, 61440, 65535} {
			put(t, m, 9, 5, cell(bits, page))
			for _, access := range accesses() {
				want := failed(2, own(walk.FAddr, at(9, 5, 9)))
				if page <= 4095 {
					want = nest.Told{Reads: 3, Page: page, Addr: uint32((8+page%64)*256 + 9), Write: bits&write != 0, Exec: bits&exec != 0}
				}
				if !allowed(bits, access) {
					want = failed(2, own(walk.FAccess, at(9, 5, 9)))
				}
				is(t, m, 1, at(9, 5, 9), access, want)
			}
		}
	}
}

// P8.1, Translate: the block bit of a second entry tells nothing: the page is its Frame, without the index.
func TestSecondBlockBit(t *testing.T) {
	m := even(t)
	lay(t, m, 2, 9, cell(valid, 3))
	for _, index := range []int{0, 1, 22, 63} {
		for _, bits := range []int{valid, valid | block} {
			lay(t, m, 3, index, cell(bits|write, 100))
			is(t, m, 0x200, at(9, index, 9), entry.AWrite, nest.Told{Reads: 3, Page: 100, Addr: 110*256 + 9, Write: true})
		}
	}
}

// rights: does a va with these rights of both stages come through, and what is told of it, by so many reads of the tables and so many for the page?
func rights(mine, its, access, tables, reads int, va, ipa, addr uint32) nest.Told {
	switch {
	case !allowed(mine, access):
		return failed(tables, own(walk.FAccess, va))
	case !allowed(its, access):
		return failed(tables+reads, second(walk.FAccess, ipa))
	}
	both := mine & its
	return nest.Told{Reads: tables + reads, Page: int(ipa / 256), Addr: addr, Write: both&write != 0, Exec: both&exec != 0}
}

// P8.1, Translate: every mix of rights of both stages, by blocks and by second tables, for each access and for ones that are none: the guest's own rights are asked first, and both count.
func TestRights(t *testing.T) {
	m := even(t)
	put(t, m, 0, 2, cell(valid, 1))
	lay(t, m, 2, 9, cell(valid, 3))
	for i := range 4 {
		for j := range 4 {
			mine, its := valid|2*i, valid|2*j
			put(t, m, 0, 1, cell(its|block, 74))
			put(t, m, 1, 6, cell(its, 800))
			lay(t, m, 2, 7, cell(mine|block, 64))
			lay(t, m, 2, 8, cell(mine|block, 128))
			lay(t, m, 3, 0, cell(mine, 70))
			lay(t, m, 3, 1, cell(mine, 134))
			for _, access := range accesses() {
				is(t, m, 0x200, at(7, 6, 5), access, rights(mine, its, access, 1, 1, at(7, 6, 5), 70*256+5, 80*256+5))
				is(t, m, 0x200, at(8, 6, 5), access, rights(mine, its, access, 1, 2, at(8, 6, 5), 134*256+5, 800*256+5))
				is(t, m, 0x200, at(9, 0, 5), access, rights(mine, its, access, 2, 1, at(9, 0, 5), 70*256+5, 80*256+5))
				is(t, m, 0x200, at(9, 1, 5), access, rights(mine, its, access, 2, 2, at(9, 1, 5), 134*256+5, 800*256+5))
			}
		}
	}
}

// P8.1, Translate: the rights of a first entry that names a second table neither give nor take anything.
func TestFirstRights(t *testing.T) {
	m := even(t)
	for _, first := range []int{valid, valid | write, valid | exec, all} {
		for _, bits := range []int{valid, valid | write, valid | exec, all} {
			lay(t, m, 2, 9, cell(first, 3))
			lay(t, m, 3, 5, cell(bits, 100))
			for _, access := range accesses() {
				is(t, m, 0x200, at(9, 5, 5), access, rights(bits, all, access, 2, 1, at(9, 5, 5), 100*256+5, 110*256+5))
			}
		}
	}
}

// P8.1, Translate: the bits of a guest's word that tell nothing bring nothing, in first and second entries.
func TestSilentBits(t *testing.T) {
	m := even(t)
	for _, bit := range []int{4, 5, 6, 7, 24, 25, 26, 27, 28, 29, 30, 31} {
		lay(t, m, 2, 9, cell(valid, 3)|1<<bit)
		lay(t, m, 2, 8, cell(valid|write|block, 30)|1<<bit)
		lay(t, m, 3, 5, cell(valid|exec, 100)|1<<bit)
		is(t, m, 0x200, at(9, 5, 0), entry.ARead, nest.Told{Reads: 3, Page: 100, Addr: 110 * 256, Exec: true})
		is(t, m, 0x200, at(9, 5, 0), entry.AWrite, failed(2, own(walk.FAccess, at(9, 5, 0))))
		is(t, m, 0x200, at(8, 5, 0), entry.AWrite, nest.Told{Reads: 2, Page: 35, Addr: 45 * 256, Write: true})
	}
}

// P8.1, Translate: each index finds its own entry, in the guest's first and second tables, whatever the offset.
func TestEachIndex(t *testing.T) {
	m := even(t)
	for n := range 64 {
		lay(t, m, 2, n, cell(valid|block, 100+n))
		lay(t, m, 3, n, cell(valid, 4))
		lay(t, m, 4, n, cell(valid|write, 200+n))
	}
	for n := range 64 {
		for _, offset := range []int{0, 1, 128, 255} {
			is(t, m, 0x200, at(n, 0, offset), entry.ARead, nest.Told{Reads: 2, Page: 100 + n, Addr: uint32((110+n)*256 + offset)})
			is(t, m, 0x300, at(63-n, n, offset), entry.ARead, nest.Told{Reads: 3, Page: 200 + n, Addr: uint32((210+n)*256 + offset), Write: true})
		}
	}
}

// P8.1, Translate: a guest's table that names itself is read as a first and a second one.
func TestItself(t *testing.T) {
	m := even(t)
	lay(t, m, 2, 0, cell(valid, 2))
	lay(t, m, 2, 1, cell(valid|block|exec, 30))
	is(t, m, 0x200, at(0, 0, 3), entry.ARead, nest.Told{Reads: 3, Page: 2, Addr: 12*256 + 3})
	is(t, m, 0x200, at(0, 1, 3), entry.AExec, nest.Told{Reads: 3, Page: 30, Addr: 40*256 + 3, Exec: true})
	is(t, m, 0x200, at(1, 1, 3), entry.AExec, nest.Told{Reads: 2, Page: 31, Addr: 41*256 + 3, Exec: true})
	is(t, m, 0x200, at(0, 2, 3), entry.ARead, failed(2, own(walk.FSecond, 0x203)))
}

// P8.1, Translate: reads are added up, by second tables of the monitor's for all three, at most 6.
func TestReads(t *testing.T) {
	m := begin(t, 10)
	put(t, m, 0, 0, cell(valid, 1))
	for n := range 5 {
		put(t, m, 1, n, cell(all, 2+n))
	}
	put(t, m, 2, 0, cell(valid, 1))
	put(t, m, 3, 0, cell(valid|exec, 2))
	put(t, m, 3, 1, cell(valid|exec, 5))
	put(t, m, 2, 1, cell(valid|write|block, 3))
	is(t, m, 1, at(0, 0, 4), entry.AExec, nest.Told{Reads: 6, Page: 2, Addr: 4*256 + 4, Exec: true})
	is(t, m, 1, at(0, 1, 4), entry.AExec, failed(6, second(walk.FSecond, 0x504)))
	is(t, m, 1, at(0, 2, 4), entry.AExec, failed(4, own(walk.FSecond, 0x204)))
	is(t, m, 1, at(1, 1, 4), entry.AWrite, nest.Told{Reads: 4, Page: 4, Addr: 6*256 + 4, Write: true})
	is(t, m, 1, at(2, 1, 4), entry.AWrite, failed(2, own(walk.FFirst, at(2, 1, 4))))
	is(t, m, 0x500, at(2, 1, 4), entry.AWrite, failed(2, table(walk.FSecond, 0x508)))
}

// P8.1: a monitor's table that isn't in memory: FBus, with nothing read, of the va or of the first entry's ipa.
func TestTableNotThere(t *testing.T) {
	for _, frames := range []int{1, 6, 100, 1024} {
		m := begin(t, frames)
		for n := range frames {
			for index := range 64 {
				put(t, m, n, index, cell(all|block, 0))
			}
		}
		for _, frame := range farFrames(frames) {
			if frame >= 0 && frame < frames {
				continue
			}
			for _, access := range accesses() {
				through(t, m, 0, frame, 0x4321, access, failed(0, second(walk.FBus, 0x4321)))
				through(t, m, 1, frame, 0x4321, access, failed(0, table(walk.FBus, 4)))
				through(t, m, 0x2ab, frame, 1<<20-1, access, failed(0, table(walk.FBus, 0x2fc)))
			}
			if w, x := nest.Fetch(m, 0, frame, 3); w != 0 || x != failed(0, second(walk.FBus, 3)) {
				t.Error(frame, w, x)
			}
			if x := nest.Ipa(m, frame, 3, entry.ARead); x != failed(0, second(walk.FBus, 3)) {
				t.Error(frame, x)
			}
		}
		through(t, m, 0, frames-1, 0x21, entry.ARead, nest.Told{Reads: 1, Addr: 0x21, Write: true, Exec: true})
	}
}

// P8.1, Ipa: as Translate with a root of 0, by hand and at arguments of all kinds.
func TestIpa(t *testing.T) {
	m := guest(t)
	for _, c := range []struct {
		ipa    uint32
		access int
		want   nest.Told
	}{
		{0x512, entry.AWrite, nest.Told{Reads: 1, Page: 5, Addr: 15*256 + 0x12, Write: true, Exec: true}},
		{896*256 + 3, entry.AExec, nest.Told{Reads: 2, Page: 896, Addr: 500*256 + 3, Exec: true}},
		{896*256 + 3, entry.AWrite, failed(2, second(walk.FAccess, 896*256+3))},
		{898 * 256, entry.ARead, failed(2, second(walk.FBus, 898*256))},
		{899 * 256, entry.ARead, failed(2, second(walk.FSecond, 899*256))},
		{960 * 256, entry.ARead, failed(1, second(walk.FBus, 960*256))},
		{1024 * 256, entry.ARead, failed(1, second(walk.FFirst, 1024*256))},
		{1 << 20, entry.ARead, failed(0, own(walk.FAddr, 1<<20))},
		{0x512, 3, failed(1, second(walk.FAccess, 0x512))},
		{0x512, -1, failed(1, second(walk.FAccess, 0x512))},
	} {
		if x := nest.Ipa(m, 0, c.ipa, c.access); x != c.want {
			t.Errorf("Ipa(%#x, %d): %+v, not %+v", c.ipa, c.access, x, c.want)
		}
	}
	addrs := append([]uint32{0, 0x78, 0x4321, 896 * 256, 1<<20 - 1}, noAddresses()...)
	for _, frame := range append([]int{0, 1, 12, 1023}, farFrames(1024)...) {
		for _, ipa := range addrs {
			for _, access := range accesses() {
				if x, want := nest.Ipa(m, frame, ipa, access), model(m, 0, frame, ipa, access); x != want {
					t.Errorf("Ipa(%d, %#x, %d): %+v, not %+v", frame, ipa, access, x, want)
				}
			}
		}
	}
}

// fetches holds one Fetch through the table in the frame 0 against these.
func fetches(t *testing.T, m *phys.Mem, root, va, w uint32, want nest.Told) {
	t.Helper()
	if got, x := nest.Fetch(m, root, 0, va); got != w || x != want {
		t.Errorf("Fetch(%#x, %#x): %#x %+v, not %#x %+v", root, va, got, x, w, want)
	}
}

// P8.1, Fetch: the word whose place is the address with its lowest two bits as 0, in one page, and what is told of the address as it is.
func TestFetch(t *testing.T) {
	m := even(t)
	lay(t, m, 2, 8, cell(valid|exec|block, 100))
	lay(t, m, 2, 9, cell(valid, 3))
	lay(t, m, 3, 5, cell(all, 200))
	for index := range 64 {
		lay(t, m, 100, index, uint32(0x81020300+index))
		lay(t, m, 101, index, uint32(0xdead0000+index))
		lay(t, m, 200, index, uint32(0x00040500+index))
		lay(t, m, 201, index, uint32(0xbeef0000+index))
	}
	for offset := range 256 {
		fetches(t, m, 0x200, at(8, 0, offset), uint32(0x81020300+offset/4), nest.Told{Reads: 2, Page: 100, Addr: uint32(110*256 + offset), Exec: true})
		fetches(t, m, 0x200, at(9, 5, offset), uint32(0x00040500+offset/4), nest.Told{Reads: 3, Page: 200, Addr: uint32(210*256 + offset), Write: true, Exec: true})
		fetches(t, m, 0, at(3, 8, offset), uint32(0x00040500+offset/4), nest.Told{Reads: 1, Page: 200, Addr: uint32(210*256 + offset), Write: true, Exec: true})
	}
}

// P8.1, Fetch: the last word of the memory, and a word of noughts.
func TestFetchEdges(t *testing.T) {
	m := begin(t, 1024)
	put(t, m, 0, 63, cell(valid|exec|block, 960))
	put(t, m, 1023, 63, 0xfedcba98)
	for low := range uint32(4) {
		fetches(t, m, 0, 1<<20-4+low, 0xfedcba98, nest.Told{Reads: 1, Page: 4095, Addr: 1023*256 + 252 + low, Exec: true})
		fetches(t, m, 0, 1<<20-8+low, 0, nest.Told{Reads: 1, Page: 4095, Addr: 1023*256 + 248 + low, Exec: true})
	}
}

// P8.1, Fetch: 0 with each fault of each stage, and what Translate tells for AExec, the address as it is.
func TestFetchFaults(t *testing.T) {
	m := guest(t)
	lay(t, m, 2, 10, cell(all|block, 960))
	lay(t, m, 2, 11, cell(all|block, 896))
	lay(t, m, 2, 12, cell(all|block, 1024))
	for n := range 64 {
		lay(t, m, 30, n, 0xffffffff)
		put(t, m, 501, n, 0xffffffff)
	}
	for _, c := range []struct {
		root, va uint32
		want     nest.Told
	}{
		{0x200, 1<<20 + 3, failed(0, own(walk.FAddr, 1<<20+3))},
		{1 << 20, 3, failed(0, own(walk.FAddr, 3))},
		{0x200, at(3, 0, 1), failed(1, own(walk.FFirst, at(3, 0, 1)))},
		{0x200, at(0, 3, 2), failed(2, own(walk.FSecond, 0x302))},
		{0x200, at(1, 10, 3), failed(1, own(walk.FAccess, at(1, 10, 3)))},
		{0x200, at(0, 4, 3), failed(2, own(walk.FAddr, 0x403))},
		{0x200, at(10, 0, 3), failed(2, second(walk.FBus, 960*256+3))},
		{0x200, at(11, 1, 3), failed(3, second(walk.FAccess, 897*256+3))},
		{0x200, at(11, 2, 3), failed(3, second(walk.FBus, 898*256+3))},
		{0x200, at(11, 3, 3), failed(3, second(walk.FSecond, 899*256+3))},
		{0x200, at(12, 3, 3), failed(2, second(walk.FFirst, 1027*256+3))},
		{0x200, at(5, 1, 3), failed(3, table(walk.FBus, 898*256+4))},
		{0x200, at(6, 1, 3), failed(3, table(walk.FSecond, 899*256+4))},
		{0x200, at(8, 1, 3), failed(2, table(walk.FFirst, 1024*256+4))},
		{0x40000, at(1, 1, 3), failed(1, table(walk.FFirst, 0x40004))},
		{0, 897*256 + 3, failed(2, second(walk.FAccess, 897*256+3))},
		{0, 1 << 20, failed(0, own(walk.FAddr, 1<<20))},
	} {
		fetches(t, m, c.root, c.va, 0, c.want)
	}
}

// mixed: a memory whose first frames are tables of entries of all kinds, so that they may be the guest's and the monitor's.
func mixed(t *testing.T, seed uint32, frames int) *phys.Mem {
	t.Helper()
	m, next := begin(t, frames), row(seed)
	for n := range min(frames, 6) {
		for index := range 64 {
			frame := next(min(frames, 6))
			switch next(8) {
			case 0:
				frame = next(frames + 2)
			case 1:
				frame = next(65536)
			case 2:
				frame = 4030 + next(70)
			}
			bits := next(256)
			if next(4) > 0 {
				bits |= valid
			}
			put(t, m, n, index, cell(bits, frame)|uint32(next(256))<<24)
		}
	}
	return m
}

// root: a guest's root of any kind, most often one whose table is told.
func root(next func(n int) int) uint32 {
	switch next(8) {
	case 0:
		return uint32(next(256))
	case 1:
		return uint32(next(1<<16))<<16 | uint32(next(1<<16))
	case 2:
		return uint32(next(1 << 20))
	}
	return uint32(256*next(64) + next(256))
}

// P8.1: Translate, Ipa and Fetch as the model, in many mixed memories; every fault of either stage is met.
func TestMixed(t *testing.T) {
	type kind struct {
		stage, kind int
		table       bool
	}
	met := map[kind]int{}
	for seed := range uint32(24) {
		frames := []int{1, 2, 6, 64, 100, 1024}[seed%6]
		m, next := mixed(t, seed, frames), row(seed+1000)
		for range 8000 {
			own, frame, va := root(next), next(min(frames, 6)), uint32(next(1<<20))
			if next(50) == 0 {
				va += 1 << 20
			}
			access := next(5) - 1
			want := model(m, own, frame, va, access)
			met[kind{want.Fault.Stage, want.Fault.Kind, want.Fault.Table}]++
			through(t, m, own, frame, va, access, want)
			if access == entry.AExec {
				w := uint32(0)
				if want.Fault.Kind == 0 {
					w = word(m, want.Addr/4*4)
				}
				if got, x := nest.Fetch(m, own, frame, va); got != w || x != want {
					t.Fatalf("Fetch(%#x, %d, %#x): %#x %+v, not %#x %+v", own, frame, va, got, x, w, want)
				}
			}
			if x := nest.Ipa(m, frame, va, access); x != model(m, 0, frame, va, access) {
				t.Fatalf("Ipa(%d, %#x, %d): %+v", frame, va, access, x)
			}
		}
	}
	for _, k := range []kind{{}, {1, 1, false}, {1, 2, false}, {1, 3, false}, {1, 4, false}, {2, 2, false}, {2, 3, false}, {2, 4, false}, {2, 5, false}, {2, 2, true}, {2, 3, true}, {2, 5, true}} {
		if met[k] == 0 {
			t.Errorf("no translation with the fault %+v", k)
		}
	}
	if len(met) != 12 {
		t.Errorf("faults of other kinds: %v", met)
	}
}

// allBytes: all bytes of a memory.
func allBytes(m *phys.Mem) []byte {
	var all []byte
	for n := range m.Frames() {
		b, _ := m.Frame(n)
		all = append(all, b...)
	}
	return all
}

// calls does every call at arguments of all kinds.
func calls(m *phys.Mem) {
	roots := append([]uint32{0, 1, 255, 256, 0x200, 0x3ff, 0xfffff}, farRoots()...)
	frames := append([]int{0, 1, 5, m.Frames() - 1}, farFrames(m.Frames())...)
	addrs := append([]uint32{0, 1, 0x4000, 0x45678, 1<<20 - 1}, noAddresses()...)
	for _, root := range roots {
		for _, frame := range frames {
			for _, addr := range addrs {
				for _, access := range []int{-1, 0, 1, 2, math.MaxInt} {
					nest.Translate(m, root, frame, addr, access)
					nest.Ipa(m, frame, addr, access)
				}
				nest.Fetch(m, root, frame, addr)
			}
		}
	}
}

// P8.2, and P1: no call changes a byte of the memory, nor of a clone of it, nor panics, at arguments of all kinds.
func TestNothingChanged(t *testing.T) {
	for _, frames := range []int{1, 100} {
		m := mixed(t, 7, frames)
		c := m.Clone()
		before := allBytes(m)
		calls(m)
		if !slices.Equal(allBytes(m), before) || !slices.Equal(allBytes(c), before) {
			t.Errorf("a memory of %d frames is changed", frames)
		}
		calls(c)
		if len(m.Differ(c)) != 0 || !slices.Equal(allBytes(c), before) || !slices.Equal(allBytes(m), before) {
			t.Errorf("a clone of %d frames is changed", frames)
		}
	}
}

// P8.2: nothing is kept: a changed entry is told anew, a memory's clone goes its own way, and a fault leaves the next translation alone.
func TestNothingKept(t *testing.T) {
	m := guest(t)
	c := m.Clone()
	before := nest.Told{Reads: 3, Page: 100, Addr: 110*256 + 0x12, Exec: true}
	is(t, m, 0x200, 0x12, entry.ARead, before)
	is(t, m, 0x200, 0x12, entry.AWrite, failed(2, own(walk.FAccess, 0x12)))
	is(t, m, 0x200, 0x12, entry.ARead, before)

	lay(t, m, 3, 0, cell(all, 101))
	is(t, m, 0x200, 0x12, entry.AWrite, nest.Told{Reads: 3, Page: 101, Addr: 111*256 + 0x12, Write: true, Exec: true})
	is(t, c, 0x200, 0x12, entry.ARead, before)
	put(t, m, 0, 1, 0)
	is(t, m, 0x200, 0x12, entry.ARead, failed(3, second(walk.FFirst, 101*256+0x12)))
	put(t, m, 0, 0, 0)
	is(t, m, 0x200, 0x12, entry.ARead, failed(1, table(walk.FFirst, 0x200)))
	is(t, c, 0x200, 0x12, entry.ARead, before)
}
