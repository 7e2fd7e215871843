package stage_test

import (
	"math"
	"slices"
	"testing"

	"warder/api"
	"warder/entry"
	"warder/frames"
	"warder/phys"
	"warder/stage"
	"warder/tlb"
)

// put: the deed of a word that was put at an index of a frame.
func put(frame, index int, w uint32) stage.Deed {
	return stage.Deed{Kind: 1, Addr: uint32(256*frame + 4*index), Value: w}
}

// dropped: the deed of a drop.
func dropped() stage.Deed { return stage.Deed{Kind: 2} }

// puts: the deeds by which a table in a frame is laid, whose pages are a run's with these bits.
func puts(frame, bits, from int) []stage.Deed {
	var list []stage.Deed
	for i := range 64 {
		list = append(list, put(frame, i, cell(bits, from+i)))
	}
	return list
}

// told holds what a call told against what it should.
func told(t *testing.T, call string, got, want api.Errno) {
	t.Helper()
	if got != want {
		t.Fatalf("%s: %v, not %v", call, got, want)
	}
}

// logged holds the log of the space k.
func (h *hall) logged(k int, want ...stage.Deed) {
	h.t.Helper()
	if got := h.spaces[k].Log(); !slices.Equal(got, want) {
		h.t.Fatalf("%d: Log: %v, not %v", k, got, want)
	}
}

// is holds how many tables the space k has, and how many frames are the monitor's in all.
func (h *hall) is(k, tables, monitors int) {
	h.t.Helper()
	if got := h.spaces[k].Tables(); got != tables || h.f.Count(1) != monitors {
		h.t.Fatalf("%d: %d tables, and %d frames of the monitor, not %d and %d", k, got, h.f.Count(1), tables, monitors)
	}
}

// page holds what a page of the space k is.
func (h *hall) page(k, page int, want entry.Entry) {
	h.t.Helper()
	if e, ok := h.spaces[k].Look(page); e != want || ok != want.Valid {
		h.t.Fatalf("%d: Look(%d): %v %v, not %v", k, page, e, ok, want)
	}
}

// far: numbers below 0, and great ones, such as have the lowest bits of pages, indexes and frames among them.
func far() []int {
	return []int{-1, -2, -63, -64, -65, -128, -256, -4095, -4096, math.MinInt32, math.MinInt32 + 64, math.MinInt, math.MinInt + 1, math.MinInt + 64, 4097, 8192, 65536, 65600, 1 << 20, 1 << 24,
		math.MaxInt32, 1 << 31, 1 << 32, 1<<32 + 1, 1<<32 + 64, 1 << 56, 1<<56 + 64, 1 << 62, 1<<62 + 1, math.MaxInt - 63, math.MaxInt - 62, math.MaxInt - 1, math.MaxInt}
}

func noPages() []int { return append([]int{4096}, far()...) }

func noFirsts() []int { return append([]int{64, 65, 127, 128, 4032, 4095, 4096}, far()...) }

// noFrames: numbers that are no frame's of a memory of so many.
func noFrames(many int) []int { return append([]int{many, many + 1, 2 * many, 4096}, far()...) }

// eachRight does a thing with each Write and Exec.
func eachRight(it func(w, x bool)) {
	for _, w := range []bool{false, true} {
		for _, x := range []bool{false, true} {
			it(w, x)
		}
	}
}

// P11.1: New of a vmid that isn't 1 to 255 is nil and ErrRange, also where no frame is nobody's; nothing is changed.
func TestNewOutside(t *testing.T) {
	for _, vmid := range append([]int{0, 256, 257, 511, 512}, far()...) {
		for _, full := range []bool{false, true} {
			h := open(t, 5)
			h.foul(0)
			if full {
				h.fill()
			}
			s, e := stage.New(h.m, h.f, h.c, vmid)
			if s != nil || e != api.ErrRange {
				t.Fatalf("New(%d): %v, with a space or none: %v", vmid, e, s != nil)
			}
			h.same()
		}
	}
}

// P11.1: New where no frame is nobody's is nil and ErrFull; nothing is changed.
func TestNewFull(t *testing.T) {
	h := open(t, 3)
	mine := h.use(1, 1)
	h.fill()
	for _, vmid := range []int{1, 3, 255} {
		if s, e := stage.New(h.m, h.f, h.c, vmid); s != nil || e != api.ErrFull {
			t.Fatalf("New(%d): %v, with a space or none: %v", vmid, e, s != nil)
		}
		h.same()
	}
	h.free(1, mine[0])
	h.begin(255)
	h.is(0, 1, 1)
}

// P11.1: a new space has no pages, and one table: the least frame that was nobody's, which is the monitor's and noughts.
func TestNewTable(t *testing.T) {
	for _, vmid := range []int{1, 2, 3, 8, 127, 128, 254, 255} {
		h := open(t, 10)
		h.use(4, 3)
		for frame := range 10 {
			h.foul(frame)
		}
		k := h.begin(vmid)
		s := h.spaces[k]
		if s.Root() != 3 || s.Vmid() != vmid || len(s.Pages()) != 0 || len(s.Log()) != 0 {
			t.Fatal(s.Root(), s.Vmid(), s.Pages(), s.Log())
		}
		if b, _ := h.m.Frame(3); !slices.Equal(b, make([]byte, 256)) || h.f.Owner(3) != 1 {
			t.Fatal(b, h.f.Owner(3))
		}
		h.is(k, 1, 1)
		h.pagesSame()
	}
}

// P11.1, P11.2: pages, first indexes and frames outside are ErrRange, ahead of every other fault of the call; nothing is changed.
func TestOutside(t *testing.T) {
	const many = 130
	h := open(t, many)
	k := h.begin(3)
	told(t, "Map", h.mapPage(k, 5, 9, true, false), api.OK)
	told(t, "MapRun", h.mapRun(k, 1, 64, true, false), api.OK)
	for _, full := range []bool{false, true} {
		if full {
			h.fill()
		}
		for _, page := range noPages() {
			told(t, "Map", h.mapPage(k, page, 1, true, true), api.ErrRange)
			told(t, "Map", h.mapPage(k, page, -1, true, true), api.ErrRange)
			told(t, "Unmap", h.unmap(k, page), api.ErrRange)
			told(t, "Protect", h.protect(k, page, false, false), api.ErrRange)
		}
		for _, n := range noFirsts() {
			told(t, "MapRun", h.mapRun(k, n, 0, true, true), api.ErrRange)
			told(t, "MapRun", h.mapRun(k, n, 1, true, true), api.ErrRange)
			told(t, "Split", h.split(k, n), api.ErrRange)
			told(t, "Merge", h.merge(k, n), api.ErrRange)
		}
		for _, frame := range noFrames(many) {
			// Pages that aren't told, with a table and without, a page that is, and one of a block.
			for _, page := range []int{0, 4, 5, 64, 100, 128, 4095} {
				told(t, "Map", h.mapPage(k, page, frame, true, false), api.ErrRange)
			}
			for _, n := range []int{0, 1, 2, 63} {
				told(t, "MapRun", h.mapRun(k, n, frame, true, false), api.ErrRange)
			}
		}
	}
	h.pagesSame()
}

// P11.1: Map of a page that isn't told: the frame, with Write and Exec as told; a table is taken where the first entry isn't valid.
func TestMap(t *testing.T) {
	eachRight(func(w, x bool) {
		for _, page := range []int{0, 1, 63, 64, 127, 2000, 4032, 4095} {
			h := open(t, 20)
			h.use(5, 2)
			k := h.begin(3)
			h.foul(3)
			n, i, bits := page/64, page%64, valid+rights(w, x)
			told(t, "Map", h.mapPage(k, page, 19, w, x), api.OK)
			h.logged(k, put(2, n, cell(valid, 3)), put(3, i, cell(bits, 19)))
			h.is(k, 2, 2)
			h.page(k, page, entry.Entry{Valid: true, Write: w, Exec: x, Frame: 19})
			// The other pages of a table that is there need none.
			h.fill()
			told(t, "Map", h.mapPage(k, 64*n+63-i, 0, x, w), api.OK)
			h.logged(k, put(3, 63-i, cell(valid+rights(x, w), 0)))
			h.is(k, 2, 2)
			h.page(k, 64*n+63-i, entry.Entry{Valid: true, Write: x, Exec: w})
			h.pagesSame()
		}
	})
}

// P11.1: Map of a page that is told is ErrThere, also with another frame and other rights, and also of each page of a block.
func TestMapThere(t *testing.T) {
	h := open(t, 200)
	k := h.begin(3)
	told(t, "Map", h.mapPage(k, 5, 9, true, false), api.OK)
	told(t, "MapRun", h.mapRun(k, 2, 64, false, true), api.OK)
	for _, full := range []bool{false, true} {
		if full {
			h.fill()
		}
		eachRight(func(w, x bool) {
			for _, page := range []int{5, 128, 129, 160, 191} {
				told(t, "Map", h.mapPage(k, page, 9, w, x), api.ErrThere)
				told(t, "Map", h.mapPage(k, page, 199, w, x), api.ErrThere)
			}
		})
	}
	h.pagesSame()
}

// P11.1: Map where no table can be taken, and one is needed, is ErrFull.
func TestMapFull(t *testing.T) {
	h := open(t, 6)
	k := h.begin(3)
	told(t, "Map", h.mapPage(k, 70, 1, true, false), api.OK)
	used := h.fill()
	for _, page := range []int{0, 63, 128, 4095} {
		told(t, "Map", h.mapPage(k, page, 1, true, false), api.ErrFull)
	}
	told(t, "Map", h.mapPage(k, 127, 1, true, false), api.OK)
	h.free(2, used[1])
	told(t, "Map", h.mapPage(k, 4095, 1, true, false), api.OK)
	h.logged(k, put(0, 63, cell(valid, used[1])), put(used[1], 63, cell(valid+write, 1)))
	told(t, "Map", h.mapPage(k, 128, 1, true, false), api.ErrFull)
	h.pagesSame()
}

// P11.1: MapRun where the first entry isn't valid: a block, for which no table is taken.
func TestMapRun(t *testing.T) {
	eachRight(func(w, x bool) {
		for _, n := range []int{0, 1, 31, 62, 63} {
			h := open(t, 200)
			k := h.begin(3)
			h.fill()
			told(t, "MapRun", h.mapRun(k, n, 128, w, x), api.OK)
			h.logged(k, put(0, n, cell(valid+block+rights(w, x), 128)))
			h.is(k, 1, 1)
			h.page(k, 64*n+63, entry.Entry{Valid: true, Write: w, Exec: x, Block: true, Frame: 191})
			h.pagesSame()
		}
	})
}

// P11.1: MapRun of a frame that isn't 64 times something, or of a run that isn't whole in memory, is ErrRange, ahead of ErrThere.
func TestMapRunFrames(t *testing.T) {
	for _, many := range []int{2, 63, 64, 65, 127, 128, 129, 191, 192, 1023, 1024} {
		h := open(t, many)
		k := h.begin(3)
		told(t, "Map", h.mapPage(k, 64, 0, true, false), api.OK)
		for frame := range many {
			want := api.ErrRange
			if frame%64 == 0 && frame+64 <= many {
				want = api.OK
			}
			// All sides of a run's beginning are enough: the rest are alike.
			if off := frame % 64; off > 1 && off != 32 && off < 63 {
				continue
			}
			if want == api.ErrRange {
				told(t, "MapRun", h.mapRun(k, 1, frame, true, true), want)
			} else {
				told(t, "MapRun", h.mapRun(k, 1, frame, true, true), api.ErrThere)
			}
			told(t, "MapRun", h.mapRun(k, 10+frame/64, frame, true, true), want)
		}
		h.pagesSame()
	}
}

// P11.1: MapRun where the first entry is a table's or a block's is ErrThere, also if the table has but one page.
func TestMapRunThere(t *testing.T) {
	h := open(t, 200)
	k := h.begin(3)
	told(t, "Map", h.mapPage(k, 63, 9, true, false), api.OK)
	told(t, "MapRun", h.mapRun(k, 1, 64, true, false), api.OK)
	for _, n := range []int{0, 1} {
		for _, frame := range []int{0, 64, 128} {
			told(t, "MapRun", h.mapRun(k, n, frame, true, false), api.ErrThere)
		}
	}
	told(t, "Unmap", h.unmap(k, 63), api.OK)
	told(t, "MapRun", h.mapRun(k, 0, 128, true, false), api.OK)
	h.pagesSame()
}

// P11.2: Unmap and Protect of a page that isn't told, with a table and without, are ErrNone.
func TestNotTold(t *testing.T) {
	h := open(t, 200)
	k := h.begin(3)
	told(t, "Map", h.mapPage(k, 5, 9, true, false), api.OK)
	told(t, "MapRun", h.mapRun(k, 2, 64, false, true), api.OK)
	for _, full := range []bool{false, true} {
		if full {
			h.fill()
		}
		for _, page := range []int{0, 4, 6, 63, 64, 127, 192, 4095} {
			told(t, "Unmap", h.unmap(k, page), api.ErrNone)
			eachRight(func(w, x bool) { told(t, "Protect", h.protect(k, page, w, x), api.ErrNone) })
		}
	}
	h.pagesSame()
}

// P11.2: Unmap of a page of a table: its entry is 0; the table of the last one is cleared up, another one isn't.
func TestUnmap(t *testing.T) {
	for _, page := range []int{0, 63, 64, 100, 4095} {
		h := open(t, 20)
		k := h.begin(3)
		n, i := page/64, page%64
		other := 64*n + (i+1)%64
		told(t, "Map", h.mapPage(k, page, 9, true, false), api.OK)
		told(t, "Map", h.mapPage(k, other, 0, false, false), api.OK)
		h.fill()
		told(t, "Unmap", h.unmap(k, page), api.OK)
		h.logged(k, put(1, i, 0), dropped())
		h.is(k, 2, 2)
		h.page(k, page, entry.Entry{})
		h.page(k, other, entry.Entry{Valid: true})
		h.refill()
		told(t, "Unmap", h.unmap(k, page), api.ErrNone)
		told(t, "Unmap", h.unmap(k, other), api.OK)
		h.logged(k, put(1, (i+1)%64, 0), dropped(), put(0, n, 0), dropped())
		h.is(k, 1, 1)
		if h.f.Owner(1) != 0 || h.f.Count(0) != 1 {
			t.Fatal(h.f.Owner(1), h.f.Count(0))
		}
		h.pagesSame()
		// What the frame has now, others have left there: it is filled with noughts when it is taken again.
		h.foul(1)
		told(t, "Map", h.mapPage(k, page, 9, true, false), api.OK)
		h.logged(k, put(0, n, cell(valid, 1)), put(1, i, cell(valid+write, 9)))
		h.pagesSame()
	}
}

// P11.2: a table is cleared up behind the last of all its 64 pages alone, whichever it is.
func TestUnmapAll(t *testing.T) {
	h := open(t, 70)
	k := h.begin(3)
	for i := range 64 {
		told(t, "Map", h.mapPage(k, 640+i, i, i%2 == 0, i%3 == 0), api.OK)
	}
	for i := range 64 {
		h.is(k, 2, 2)
		told(t, "Unmap", h.unmap(k, 640+i*37%64), api.OK)
	}
	h.is(k, 1, 1)
	h.pagesSame()
}

// broken: the log of a block's breaking up, by a table in a frame.
func broken(root, n, frame, bits, from int, more ...stage.Deed) []stage.Deed {
	list := puts(frame, valid+bits, from)
	list = append(list, put(root, n, 0), dropped(), put(root, n, cell(valid, frame)))
	return append(list, more...)
}

// P11.2: Unmap of a block's page: it is broken up, and the other 63 keep their frames and rights.
func TestUnmapBlock(t *testing.T) {
	eachRight(func(w, x bool) {
		for _, i := range []int{0, 1, 31, 62, 63} {
			h := open(t, 200)
			k := h.begin(3)
			h.foul(1)
			bits := rights(w, x)
			told(t, "MapRun", h.mapRun(k, 7, 128, w, x), api.OK)
			told(t, "Unmap", h.unmap(k, 7*64+i), api.OK)
			h.logged(k, broken(0, 7, 1, bits, 128, put(1, i, 0), dropped())...)
			h.is(k, 2, 2)
			for j := range 64 {
				want := entry.Entry{Valid: true, Write: w, Exec: x, Frame: 128 + j}
				if j == i {
					want = entry.Entry{}
				}
				h.page(k, 7*64+j, want)
			}
			h.pagesSame()
		}
	})
}

// P11.2: where a block can't be broken up, Unmap, Protect (also to what it was) and Split are ErrFull.
func TestBlockFull(t *testing.T) {
	h := open(t, 200)
	k := h.begin(3)
	told(t, "MapRun", h.mapRun(k, 7, 128, true, false), api.OK)
	used := h.fill()
	for _, i := range []int{0, 1, 63} {
		told(t, "Unmap", h.unmap(k, 7*64+i), api.ErrFull)
		eachRight(func(w, x bool) { told(t, "Protect", h.protect(k, 7*64+i, w, x), api.ErrFull) })
	}
	told(t, "Split", h.split(k, 7), api.ErrFull)
	h.pagesSame()
	h.free(2, used[20])
	told(t, "Split", h.split(k, 7), api.OK)
	h.logged(k, broken(0, 7, used[20], write, 128)...)
}

// P11.2: Protect of a page of a table, from each right to each: its word is 0 first, and no word is put if it is what it was.
func TestProtect(t *testing.T) {
	eachRight(func(w, x bool) {
		eachRight(func(w2, x2 bool) {
			h := open(t, 20)
			k := h.begin(3)
			told(t, "Map", h.mapPage(k, 130, 9, w, x), api.OK)
			told(t, "Map", h.mapPage(k, 131, 10, w, x), api.OK)
			h.fill()
			told(t, "Protect", h.protect(k, 130, w2, x2), api.OK)
			if w == w2 && x == x2 {
				h.logged(k)
			} else {
				h.logged(k, put(1, 2, 0), dropped(), put(1, 2, cell(valid+rights(w2, x2), 9)))
			}
			h.page(k, 130, entry.Entry{Valid: true, Write: w2, Exec: x2, Frame: 9})
			h.page(k, 131, entry.Entry{Valid: true, Write: w, Exec: x, Frame: 10})
			h.is(k, 2, 2)
			h.pagesSame()
		})
	})
}

// P11.2: Protect of a block's page: it is broken up, also to what it was, and the other 63 keep their frames and rights.
func TestProtectBlock(t *testing.T) {
	eachRight(func(w, x bool) {
		eachRight(func(w2, x2 bool) {
			for _, i := range []int{0, 40, 63} {
				h := open(t, 140)
				k := h.begin(3)
				h.foul(1)
				told(t, "MapRun", h.mapRun(k, 63, 64, w, x), api.OK)
				told(t, "Protect", h.protect(k, 63*64+i, w2, x2), api.OK)
				var more []stage.Deed
				if w != w2 || x != x2 {
					more = []stage.Deed{put(1, i, 0), dropped(), put(1, i, cell(valid+rights(w2, x2), 64+i))}
				}
				h.logged(k, broken(0, 63, 1, rights(w, x), 64, more...)...)
				h.page(k, 63*64+i, entry.Entry{Valid: true, Write: w2, Exec: x2, Frame: 64 + i})
				h.page(k, 63*64+(i+1)%64, entry.Entry{Valid: true, Write: w, Exec: x, Frame: 64 + (i+1)%64})
				h.is(k, 2, 2)
			}
		})
	})
}

// P11.2: Split of no valid entry and of a table is ErrNone; of a block, a table that tells the same.
func TestSplit(t *testing.T) {
	eachRight(func(w, x bool) {
		h := open(t, 200)
		k := h.begin(3)
		h.foul(1)
		told(t, "Split", h.split(k, 2), api.ErrNone)
		told(t, "MapRun", h.mapRun(k, 2, 128, w, x), api.OK)
		told(t, "Split", h.split(k, 1), api.ErrNone)
		told(t, "Split", h.split(k, 3), api.ErrNone)
		told(t, "Split", h.split(k, 2), api.OK)
		h.logged(k, broken(0, 2, 1, rights(w, x), 128)...)
		h.is(k, 2, 2)
		h.pagesSame()
		told(t, "Split", h.split(k, 2), api.ErrNone)
		h.fill()
		told(t, "Split", h.split(k, 2), api.ErrNone)
		told(t, "Split", h.split(k, 0), api.ErrNone)
	})
}

// P11.2: Merge of no valid entry and of a block is ErrNone.
func TestMergeNone(t *testing.T) {
	h := open(t, 200)
	k := h.begin(3)
	told(t, "Merge", h.merge(k, 0), api.ErrNone)
	told(t, "MapRun", h.mapRun(k, 2, 128, true, true), api.OK)
	for _, n := range []int{0, 1, 2, 3, 63} {
		told(t, "Merge", h.merge(k, n), api.ErrNone)
	}
}

// P11.2: Merge of a table that tells a run, with one Write and one Exec: a block, and the table's frame is nobody's.
func TestMerge(t *testing.T) {
	eachRight(func(w, x bool) {
		for _, from := range []int{0, 64, 128} {
			h := open(t, 192)
			k := h.begin(3)
			for i := range 64 {
				told(t, "Merge", h.merge(k, 5), []api.Errno{api.ErrNone, api.ErrState}[min(i, 1)])
				// Their order isn't that of the pages.
				j := i * 27 % 64
				told(t, "Map", h.mapPage(k, 5*64+j, from+j, w, x), api.OK)
			}
			h.fill()
			h.refill()
			told(t, "Merge", h.merge(k, 5), api.OK)
			h.logged(k, put(0, 5, 0), dropped(), put(0, 5, cell(valid+block+rights(w, x), from)))
			h.is(k, 1, 1)
			if h.f.Owner(1) != 0 || h.f.Count(0) != 1 {
				t.Fatal(h.f.Owner(1), h.f.Count(0))
			}
			h.pagesSame()
			told(t, "Merge", h.merge(k, 5), api.ErrNone)
		}
	})
}

// P11.2: Merge of a table with one entry that isn't valid, or with one right or one frame unlike, is ErrState, wherever that is.
func TestMergeState(t *testing.T) {
	for _, i := range []int{0, 1, 31, 62, 63} {
		h := open(t, 330)
		k := h.begin(3)
		told(t, "MapRun", h.mapRun(k, 1, 128, true, false), api.OK)
		told(t, "Split", h.split(k, 1), api.OK)
		page := 64 + i
		bad := func(frame int, w, x bool) {
			t.Helper()
			told(t, "Unmap", h.unmap(k, page), api.OK)
			told(t, "Merge", h.merge(k, 1), api.ErrState)
			told(t, "Map", h.mapPage(k, page, frame, w, x), api.OK)
			told(t, "Merge", h.merge(k, 1), api.ErrState)
		}
		for _, frame := range []int{0, 127 + i, 129 + i, 64 + i, 192 + i, 256 + i, 128 + (i+1)%64} {
			bad(frame, true, false)
		}
		bad(128+i, false, false)
		bad(128+i, true, true)
		bad(128+i, false, true)
		h.is(k, 2, 2)
		told(t, "Protect", h.protect(k, page, true, false), api.OK)
		told(t, "Merge", h.merge(k, 1), api.OK)
		h.pagesSame()
	}
}

// P11.2: Merge of a table whose first frame isn't 64 times something is ErrState, also if the others are behind it.
func TestMergeFirstFrame(t *testing.T) {
	for _, from := range []int{1, 2, 4, 8, 16, 32, 63, 65, 96, 127, 129} {
		h := open(t, 200)
		k := h.begin(3)
		for i := range 64 {
			told(t, "Map", h.mapPage(k, i, from+i, true, true), api.OK)
		}
		told(t, "Merge", h.merge(k, 0), api.ErrState)
		h.is(k, 2, 2)
	}
}

// P11.1, P11.2: a drop is of the space's vmid alone, and there is none where no valid word goes.
func TestDrop(t *testing.T) {
	of := func(h *hall, vmid int) int {
		n := 0
		for _, s := range h.c.List() {
			if s.Vmid == vmid {
				n++
			}
		}
		return n
	}
	goes := func(h *hall, call string, e api.Errno, left int) {
		t.Helper()
		told(t, call, e, api.OK)
		for vmid := 1; vmid <= 8; vmid++ {
			want := 3
			if vmid == 3 {
				want = left
			}
			if got := of(h, vmid); got != want {
				t.Fatalf("%s: of %d there are %d entries, not %d", call, vmid, got, want)
			}
		}
		h.refill()
	}
	h := open(t, 200)
	k := h.begin(3)
	h.begin(4)
	goes(h, "Map", h.mapPage(k, 1, 7, true, false), 3)
	goes(h, "Map", h.mapPage(k, 2, 7, true, false), 3)
	goes(h, "MapRun", h.mapRun(k, 1, 64, true, false), 3)
	goes(h, "Protect", h.protect(k, 1, true, false), 3)
	goes(h, "Protect", h.protect(k, 1, false, false), 0)
	goes(h, "Unmap", h.unmap(k, 2), 0)
	goes(h, "Unmap", h.unmap(k, 1), 0)
	goes(h, "Split", h.split(k, 1), 0)
	goes(h, "Merge", h.merge(k, 1), 0)
	goes(h, "Unmap", h.unmap(k, 64), 0)
	told(t, "Merge", h.merge(k, 1), api.ErrState)
	goes(h, "Map", h.mapPage(k, 64, 64, true, false), 3)
	goes(h, "Merge", h.merge(k, 1), 0)
	goes(h, "Protect", h.protect(k, 64, true, false), 0)
	h.destroy(k)
	goes(h, "Destroy", api.OK, 0)
}

// P11.3: the log is of the last call that changes alone, and empty behind an error; what reads leaves it.
func TestLog(t *testing.T) {
	h := open(t, 200)
	k := h.begin(3)
	s := h.spaces[k]
	h.logged(k)
	told(t, "Map", h.mapPage(k, 1, 7, true, false), api.OK)
	read := func() {
		s.Look(1)
		s.Look(-1)
		s.Pages()
		s.Root()
		s.Vmid()
		s.Tables()
		s.Log()
	}
	read()
	h.logged(k, put(0, 0, cell(valid, 1)), put(1, 1, cell(valid+write, 7)))
	told(t, "Map", h.mapPage(k, 2, 8, false, true), api.OK)
	read()
	h.logged(k, put(1, 2, cell(valid+exec, 8)))
	for i, wrong := range []func() api.Errno{
		func() api.Errno { return h.mapPage(k, 1, 7, true, false) },
		func() api.Errno { return h.mapPage(k, 4096, 7, true, false) },
		func() api.Errno { return h.mapRun(k, 0, 64, true, false) },
		func() api.Errno { return h.mapRun(k, 1, 65, true, false) },
		func() api.Errno { return h.unmap(k, 3) },
		func() api.Errno { return h.unmap(k, -1) },
		func() api.Errno { return h.protect(k, 3, true, true) },
		func() api.Errno { return h.protect(k, -1, true, true) },
		func() api.Errno { return h.split(k, 0) },
		func() api.Errno { return h.split(k, 64) },
		func() api.Errno { return h.merge(k, 0) },
		func() api.Errno { return h.merge(k, 1) },
		func() api.Errno { return h.merge(k, 64) },
	} {
		told(t, "MapRun", h.mapRun(k, 9, 64, true, true), api.OK)
		h.logged(k, put(0, 9, cell(valid+write+exec+block, 64)))
		if e := wrong(); e == api.OK {
			t.Fatal(i, e)
		}
		h.logged(k)
		told(t, "Unmap", h.unmap(k, 9*64), api.OK)
		for page := 9*64 + 1; page < 10*64; page++ {
			told(t, "Unmap", h.unmap(k, page), api.OK)
		}
		h.logged(k, put(2, 63, 0), dropped(), put(0, 9, 0), dropped())
	}
}

// P11.2: two spaces over one memory, of which neither changes the other's pages, log or tables.
func TestTwoSpaces(t *testing.T) {
	h := open(t, 300)
	a, b := h.begin(3), h.begin(4)
	for k, n := range []int{a, b} {
		told(t, "Map", h.mapPage(n, 5, 250+k, k == 0, k == 1), api.OK)
		told(t, "MapRun", h.mapRun(n, 2, 64, k == 1, k == 0), api.OK)
		told(t, "Map", h.mapPage(n, 4000+k, 9, true, true), api.OK)
	}
	h.pagesSame()
	told(t, "Unmap", h.unmap(a, 5), api.OK)
	told(t, "Protect", h.protect(b, 130, false, false), api.OK)
	told(t, "Split", h.split(a, 2), api.OK)
	h.pagesSame()
	told(t, "Unmap", h.unmap(a, 4001), api.ErrNone)
	told(t, "Unmap", h.unmap(b, 4000), api.ErrNone)
	h.destroy(a)
	h.pagesSame()
	if len(h.spaces[b].Pages()) != 66 {
		t.Fatal(len(h.spaces[b].Pages()))
	}
	h.page(b, 5, entry.Entry{Valid: true, Exec: true, Frame: 251})
	told(t, "Map", h.mapPage(b, 4000, 9, true, true), api.OK)
	h.pagesSame()
}

// P11.3: Look and Pages, through tables and blocks.
func TestLook(t *testing.T) {
	h := open(t, 300)
	k := h.begin(3)
	told(t, "Map", h.mapPage(k, 4095, 299, true, false), api.OK)
	told(t, "Map", h.mapPage(k, 0, 0, false, true), api.OK)
	told(t, "MapRun", h.mapRun(k, 62, 192, true, true), api.OK)
	h.page(k, 4095, entry.Entry{Valid: true, Write: true, Frame: 299})
	h.page(k, 0, entry.Entry{Valid: true, Exec: true})
	h.page(k, 1, entry.Entry{})
	h.page(k, 62*64+17, entry.Entry{Valid: true, Write: true, Exec: true, Block: true, Frame: 209})
	h.page(k, 61*64, entry.Entry{})
	want := []int{0}
	for i := range 64 {
		want = append(want, 62*64+i)
	}
	if got := h.spaces[k].Pages(); !slices.Equal(got, append(want, 4095)) {
		t.Fatal(got)
	}
	for _, page := range noPages() {
		h.page(k, page, entry.Entry{})
	}
	h.pagesSame()
	for n := range 64 {
		h.mapRun(k, n, 64, false, false)
	}
	if got := len(h.spaces[k].Pages()); got != 2+62*64 {
		t.Fatal(got)
	}
	h.pagesSame()
}

// P11.3: Destroy: all of the vmid are dropped, all tables' frames are nobody's, the log is empty, and nothing is told.
func TestDestroy(t *testing.T) {
	h := open(t, 300)
	h.use(5, 3)
	k, o := h.begin(3), h.begin(4)
	for i := range 10 {
		told(t, "Map", h.mapPage(k, 70*i, 299-i, true, false), api.OK)
		told(t, "Map", h.mapPage(o, 70*i, 299-i, true, false), api.OK)
	}
	told(t, "MapRun", h.mapRun(k, 60, 64, true, false), api.OK)
	h.is(k, 11, 22)
	h.destroy(k)
	h.logged(k)
	h.is(k, 0, 11)
	if len(h.spaces[k].Pages()) != 0 {
		t.Fatal(h.spaces[k].Pages())
	}
	for _, slot := range h.c.List() {
		if slot.Vmid == 3 {
			t.Fatal(slot)
		}
	}
	h.pagesSame()
}

// P11.3: a space that is destroyed answers ErrState to all that changes it, also where its arguments are outside, and changes nothing.
func TestDestroyed(t *testing.T) {
	h := open(t, 200)
	k := h.begin(3)
	told(t, "Map", h.mapPage(k, 5, 9, true, false), api.OK)
	told(t, "MapRun", h.mapRun(k, 1, 64, true, false), api.OK)
	h.destroy(k)
	h.refill()
	for _, full := range []bool{false, true} {
		if full {
			h.fill()
		}
		for _, n := range append([]int{0, 1, 2, 5, 6, 63, 64, 100, 4095, 4096}, far()...) {
			told(t, "Map", h.mapPage(k, n, 9, true, true), api.ErrState)
			told(t, "Map", h.mapPage(k, 6, n, true, true), api.ErrState)
			told(t, "MapRun", h.mapRun(k, n, 64, true, true), api.ErrState)
			told(t, "MapRun", h.mapRun(k, 3, n, true, true), api.ErrState)
			told(t, "Unmap", h.unmap(k, n), api.ErrState)
			told(t, "Protect", h.protect(k, n, false, false), api.ErrState)
			told(t, "Split", h.split(k, n), api.ErrState)
			told(t, "Merge", h.merge(k, n), api.ErrState)
			h.page(k, n, entry.Entry{})
		}
	}
	h.pagesSame()
}

// P11.3: another Destroy does nothing, also where others, the monitor among them, have taken those frames since.
func TestDestroyTwice(t *testing.T) {
	for _, owner := range []int{1, 2, 9} {
		h := open(t, 20)
		k := h.begin(3)
		told(t, "Map", h.mapPage(k, 5, 9, true, false), api.OK)
		h.destroy(k)
		h.use(owner, 20)
		h.refill()
		h.destroy(k)
		h.destroy(k)
		h.pagesSame()
	}
	// A new space over the frames of one that is gone.
	h := open(t, 5)
	old := h.begin(3)
	told(t, "Map", h.mapPage(old, 5, 3, true, false), api.OK)
	h.destroy(old)
	k := h.begin(3)
	told(t, "Map", h.mapPage(k, 7, 4, true, true), api.OK)
	h.refill()
	h.destroy(old)
	h.page(old, 7, entry.Entry{})
	h.is(old, 0, 2)
	h.is(k, 2, 2)
	h.pagesSame()
}

// P11.3: what Log and Pages answer is new memory: changed or appended to, it changes nothing of the space, nor another answer.
func TestAnswers(t *testing.T) {
	h := open(t, 200)
	k := h.begin(3)
	s := h.spaces[k]
	spoil := func(list []stage.Deed) {
		list = list[:cap(list)]
		for i := range list {
			list[i] = stage.Deed{Kind: 9, Addr: 9, Value: 9}
		}
	}
	told(t, "Map", h.mapPage(k, 1, 7, true, false), api.OK)
	one, two := s.Log(), s.Log()
	spoil(one)
	spoil(append(one, stage.Deed{Kind: 5}))
	if !slices.Equal(two, []stage.Deed{put(0, 0, cell(valid, 1)), put(1, 1, cell(valid+write, 7))}) {
		t.Fatal(two)
	}
	h.same()
	kept := s.Log()
	told(t, "MapRun", h.mapRun(k, 1, 64, true, false), api.OK)
	told(t, "Split", h.split(k, 1), api.OK)
	if !slices.Equal(kept, two) {
		t.Fatal(kept)
	}
	spoil(s.Log())
	h.same()
	pages := s.Pages()
	pages = pages[:cap(pages)]
	for i := range pages {
		pages[i] = 4000 + i
	}
	h.pagesSame()
	h.destroy(k)
	spoil(append(s.Log(), stage.Deed{Kind: 1}))
	h.same()
	if kept := append(s.Pages(), 5); len(s.Pages()) != 0 || len(kept) != 1 {
		t.Fatal(kept)
	}
}

// The chapter's example.
func TestExample(t *testing.T) {
	h := open(t, 5)
	k := h.begin(1)
	told(t, "Map", h.mapPage(k, 0, 4, true, true), api.OK)
	h.is(k, 2, 2)
	told(t, "Unmap", h.unmap(k, 0), api.OK)
	h.is(k, 1, 1)
}

// P1, P11.1: frames that the memory hasn't are no room for tables, though the table of frames has them; nothing is changed then.
func TestUnevenFrames(t *testing.T) {
	c, _ := tlb.New(4)
	m, _ := phys.New(2)
	f, _ := frames.New(5)
	s, e := stage.New(m, f, c, 3)
	told(t, "New", e, api.OK)
	told(t, "Map", s.Map(0, 1, true, true), api.OK)
	told(t, "Map", s.Map(64, 1, true, true), api.ErrFull)
	if f.Count(1) != 2 || s.Tables() != 2 || len(s.Log()) != 0 || !slices.Equal(s.Pages(), []int{0}) {
		t.Fatal(f.Count(1), s.Tables(), s.Log(), s.Pages())
	}
	if s, e := stage.New(m, f, c, 4); s != nil || e != api.ErrFull || f.Count(1) != 2 {
		t.Fatal(e, f.Count(1))
	}
	// A memory that has more than the table of frames: its frames may be told all the same.
	wide, _ := phys.New(200)
	few, _ := frames.New(1)
	s, e = stage.New(wide, few, c, 3)
	told(t, "New", e, api.OK)
	told(t, "MapRun", s.MapRun(0, 128, true, true), api.OK)
	told(t, "Split", s.Split(0), api.ErrFull)
	told(t, "Map", s.Map(64, 199, true, true), api.ErrFull)
}

// stands holds that the words of a log stand where it tells.
func stands(t *testing.T, m *phys.Mem, log []stage.Deed) {
	t.Helper()
	last := map[uint32]uint32{}
	for _, d := range log {
		if d.Kind == 1 {
			last[d.Addr] = d.Value
		}
	}
	for addr, want := range last {
		if w, ok := m.Word(addr); w != want || !ok {
			t.Fatalf("at %x stands %x, and the log is %v", addr, w, log)
		}
	}
}

// P11.1: a word that isn't valid, though it isn't 0, is followed by another one without 0 and a drop.
func TestInvalidWords(t *testing.T) {
	for _, w := range []uint32{2, 4, 8, 14, 0x100, 0x1234fe, 0xfffffffe} {
		h := open(t, 200)
		k := h.begin(3)
		s := h.spaces[k]
		h.m.PutWord(0, w)
		h.m.PutWord(4, w)
		told(t, "MapRun", s.MapRun(1, 128, true, false), api.OK)
		h.logged(k, put(0, 1, cell(valid+block+write, 128)))
		told(t, "Map", s.Map(5, 9, true, false), api.OK)
		h.logged(k, put(0, 0, cell(valid, 1)), put(1, 5, cell(valid+write, 9)))
		h.m.PutWord(256+28, w)
		told(t, "Map", s.Map(7, 9, false, true), api.OK)
		h.logged(k, put(1, 7, cell(valid+exec, 9)))
		if got := h.c.List(); !slices.Equal(got, h.model.slots) {
			t.Fatal(got)
		}
		// A table whose words aren't all 0 isn't cleared up.
		h.m.PutWord(256+32, w)
		told(t, "Unmap", s.Unmap(5), api.OK)
		told(t, "Unmap", s.Unmap(7), api.OK)
		h.logged(k, put(1, 7, 0), dropped())
		h.is(k, 2, 2)
	}
}

// P1: also where the memory's words were changed from elsewhere, every call ends, and an error changes nothing.
func TestForeignWords(t *testing.T) {
	for _, w := range []uint32{0, 1, 2, 8, 9, 0xff, 0x101, 0x109, 0xffff01, 0xffff09, 0xffffff0f, 0xfffffffe, 0xffffffff, cell(valid, 199), cell(valid, 200), cell(valid+block, 137), cell(valid+block, 65500)} {
		for _, place := range []uint32{0, 4, 256, 256 + 4, 256 + 252} {
			h := open(t, 200)
			k := h.begin(3)
			s := h.spaces[k]
			told(t, "Map", s.Map(5, 9, true, false), api.OK)
			calls := []func() api.Errno{
				func() api.Errno { return s.Map(1, 7, true, true) },
				func() api.Errno { return s.Map(70, 7, true, true) },
				func() api.Errno { return s.MapRun(0, 64, true, true) },
				func() api.Errno { return s.MapRun(1, 64, true, true) },
				func() api.Errno { return s.Protect(1, false, false) },
				func() api.Errno { return s.Protect(64, true, true) },
				func() api.Errno { return s.Merge(0) },
				func() api.Errno { return s.Merge(1) },
				func() api.Errno { return s.Split(0) },
				func() api.Errno { return s.Split(1) },
				func() api.Errno { return s.Unmap(5) },
				func() api.Errno { return s.Unmap(63) },
				func() api.Errno { return s.Unmap(64) },
			}
			for _, call := range calls {
				h.m.PutWord(place, w)
				before, owned, kept := h.m.Clone(), h.f.List(1), h.c.List()
				if e := call(); e != api.OK && (len(before.Differ(h.m)) != 0 || !slices.Equal(h.f.List(1), owned) || !slices.Equal(h.c.List(), kept) || len(s.Log()) != 0) {
					t.Fatalf("the word %x at %x: %v, and something is changed", w, place, e)
				}
				stands(t, h.m, s.Log())
				s.Pages()
				s.Tables()
			}
			s.Destroy()
		}
	}
}

// row: numbers that look mixed, the same for the same seed.
func row(seed uint32) func(n int) int {
	return func(n int) int {
		seed = seed*1664525 + 1013904223
		return int(seed>>8) % n
	}
}

// step does one mixed call of a space of the hall.
func (h *hall) step(next func(n int) int) {
	h.t.Helper()
	k := next(len(h.spaces))
	// Few first indexes, so that calls meet; at times one that is none.
	n := []int{0, 1, 2, 63}[next(4)]
	page := 64*n + []int{0, 1, 2, 62, 63}[next(5)]
	frame := []int{0, 64, 128, 65}[next(4)] + page%64*next(2)
	if next(20) == 0 {
		n, page = far()[next(len(far()))], noPages()[next(len(noPages()))]
	}
	if next(40) == 0 {
		frame = far()[next(len(far()))]
	}
	w, x := next(2) == 0, next(3) == 0
	switch next(9) {
	case 0, 1:
		h.mapPage(k, page, frame, w, x)
	case 2:
		h.mapRun(k, n, frame-frame%64*next(2), w, x)
	case 3, 4:
		h.unmap(k, page)
	case 5:
		h.protect(k, page, w, x)
	case 6:
		h.split(k, n)
	case 7:
		h.merge(k, n)
	case 8:
		h.mend(k, n, next)
	}
}

// mend tells all pages of a first index anew, by their own entries, so that they can be merged at times.
func (h *hall) mend(k, n int, next func(n int) int) {
	h.t.Helper()
	if n < 0 || n > 63 || next(3) > 0 {
		return
	}
	w, x, from := next(2) == 0, next(2) == 0, 64*next(3)
	for i := range 64 {
		if h.unmap(k, 64*n+i) == api.ErrFull {
			return
		}
		h.mapPage(k, 64*n+i, from+i, w, x)
	}
	h.merge(k, n)
}

// aside does what others do: they take frames and give them back, and the TLB is filled.
func (h *hall) aside(next func(n int) int) {
	h.t.Helper()
	switch next(6) {
	case 0:
		if free := h.f.Count(0); free > 0 {
			h.use(2+next(2), 1+next(free))
		}
	case 1:
		for _, frame := range h.f.List(2 + next(2)) {
			h.free(h.f.Owner(frame), frame)
		}
	case 2:
		if frame := next(len(h.model.owners)); h.model.owners[frame] != 1 {
			h.foul(frame)
		}
	case 3:
		h.refill()
	case 4:
		if next(8) == 0 {
			h.destroy(next(len(h.spaces)))
		}
	case 5:
		if vmid := 1 + len(h.spaces); vmid <= 8 && h.f.Count(0) > 0 && next(4) == 0 {
			h.begin(vmid)
		}
	}
}

// P11.1 to P11.3: rows of mixed calls against the model.
func TestRows(t *testing.T) {
	for seed := range 8 {
		next := row(uint32(seed))
		h := open(t, 192+next(10))
		h.begin(1)
		h.begin(2)
		for i := range 250 {
			h.step(next)
			if next(5) == 0 {
				h.aside(next)
			}
			if i%25 == 0 {
				h.pagesSame()
			}
		}
		h.pagesSame()
	}
}
