package stage_test

import (
	"slices"
	"testing"

	"warder/api"
	"warder/entry"
	"warder/frames"
	"warder/phys"
	"warder/stage"
	"warder/tlb"
)

// The bits of an entry's word.
const (
	valid = 1
	write = 2
	exec  = 4
	block = 8
)

// cell: the word of an entry with these bits and a frame.
func cell(bits, frame int) uint32 { return uint32(256*frame + bits) }

// rights: the bits of what may be done.
func rights(w, x bool) int {
	bits := 0
	if w {
		bits += write
	}
	if x {
		bits += exec
	}
	return bits
}

// What a first entry is.
const (
	none = iota
	run
	table
)

// first is what the pages of a first index are: the words of their own entries, if a table tells them.
type first struct {
	kind, frame, bits int
	words             [64]uint32
}

// view is a space as the chapter's sentences tell it.
type view struct {
	vmid, root int
	firsts     [64]first
	gone       bool
	log        []stage.Deed
}

// model is the spaces, and what they stand on, as the chapter's sentences tell them.
type model struct {
	bytes  [][256]byte
	owners []int
	slots  []tlb.Slot
}

// take: a frame of noughts that is the monitor's, or -1.
func (m *model) take() int {
	frame := slices.Index(m.owners, 0)
	if frame < 0 || frame >= len(m.bytes) {
		return -1
	}
	m.owners[frame] = 1
	m.bytes[frame] = [256]byte{}
	return frame
}

// put puts a word at an index of a frame.
func (m *model) put(v *view, frame, index int, w uint32) {
	for i := range 4 {
		m.bytes[frame][4*index+i] = byte(w >> (8 * i))
	}
	v.log = append(v.log, stage.Deed{Kind: 1, Addr: uint32(256*frame + 4*index), Value: w})
}

// drop: no entry of the view's vmid is kept.
func (m *model) drop(v *view) {
	m.slots = slices.DeleteFunc(m.slots, func(s tlb.Slot) bool { return s.Vmid == v.vmid })
}

// swap: the word at an index of a frame, until now was, is w.
func (m *model) swap(v *view, frame, index int, was, w uint32) {
	if was == w {
		return
	}
	if was != 0 {
		m.put(v, frame, index, 0)
		m.drop(v)
		v.log = append(v.log, stage.Deed{Kind: 2})
	}
	if w != 0 {
		m.put(v, frame, index, w)
	}
}

// begin: a view of a new space, or nil.
func (m *model) begin(vmid int) (*view, api.Errno) {
	if vmid < 1 || vmid > 255 {
		return nil, api.ErrRange
	}
	root := m.take()
	if root < 0 {
		return nil, api.ErrFull
	}
	return &view{vmid: vmid, root: root}, api.OK
}

// ahead: the error that is told ahead of all others.
func (v *view) ahead(in bool) api.Errno {
	v.log = nil
	switch {
	case v.gone:
		return api.ErrState
	case !in:
		return api.ErrRange
	}
	return api.OK
}

func isPage(page int) bool { return page >= 0 && page < 4096 }

func isFirst(n int) bool { return n >= 0 && n < 64 }

func (m *model) isFrame(frame int) bool { return frame >= 0 && frame < len(m.bytes) }

// told: is a page told?
func (v *view) told(page int) bool {
	f := v.firsts[page/64]
	return f.kind == run || f.words[page%64] != 0
}

func (m *model) mapPage(v *view, page, frame int, w, x bool) api.Errno {
	if e := v.ahead(isPage(page) && m.isFrame(frame)); e != api.OK {
		return e
	}
	if v.told(page) {
		return api.ErrThere
	}
	f := &v.firsts[page/64]
	if f.kind == none {
		taken := m.take()
		if taken < 0 {
			return api.ErrFull
		}
		*f = first{kind: table, frame: taken}
		m.put(v, v.root, page/64, cell(valid, taken))
	}
	f.words[page%64] = cell(valid+rights(w, x), frame)
	m.put(v, f.frame, page%64, f.words[page%64])
	return api.OK
}

func (m *model) mapRun(v *view, n, frame int, w, x bool) api.Errno {
	if e := v.ahead(isFirst(n) && m.isFrame(frame) && m.isFrame(frame+63) && frame%64 == 0); e != api.OK {
		return e
	}
	f := &v.firsts[n]
	if f.kind != none {
		return api.ErrThere
	}
	*f = first{kind: run, frame: frame, bits: rights(w, x)}
	m.put(v, v.root, n, cell(valid+block+f.bits, frame))
	return api.OK
}

// breakUp: a block becomes a table; false, if there is no frame for one.
func (m *model) breakUp(v *view, n int) bool {
	taken := m.take()
	if taken < 0 {
		return false
	}
	f := &v.firsts[n]
	was := *f
	*f = first{kind: table, frame: taken}
	for i := range 64 {
		f.words[i] = cell(valid+was.bits, was.frame+i)
		m.put(v, taken, i, f.words[i])
	}
	m.swap(v, v.root, n, cell(valid+block+was.bits, was.frame), cell(valid, taken))
	return true
}

// alone: a page is told by an entry of its own.
func (m *model) alone(v *view, page int) api.Errno {
	if e := v.ahead(isPage(page)); e != api.OK {
		return e
	}
	if !v.told(page) {
		return api.ErrNone
	}
	if v.firsts[page/64].kind == run && !m.breakUp(v, page/64) {
		return api.ErrFull
	}
	return api.OK
}

func (m *model) unmap(v *view, page int) api.Errno {
	if e := m.alone(v, page); e != api.OK {
		return e
	}
	f := &v.firsts[page/64]
	m.swap(v, f.frame, page%64, f.words[page%64], 0)
	f.words[page%64] = 0
	if f.words == [64]uint32{} {
		m.swap(v, v.root, page/64, cell(valid, f.frame), 0)
		m.owners[f.frame] = 0
		*f = first{}
	}
	return api.OK
}

func (m *model) protect(v *view, page int, w, x bool) api.Errno {
	if e := m.alone(v, page); e != api.OK {
		return e
	}
	f := &v.firsts[page/64]
	was := f.words[page%64]
	f.words[page%64] = cell(valid+rights(w, x), int(was/256))
	m.swap(v, f.frame, page%64, was, f.words[page%64])
	return api.OK
}

func (m *model) split(v *view, n int) api.Errno {
	if e := v.ahead(isFirst(n)); e != api.OK {
		return e
	}
	if v.firsts[n].kind != run {
		return api.ErrNone
	}
	if !m.breakUp(v, n) {
		return api.ErrFull
	}
	return api.OK
}

func (m *model) merge(v *view, n int) api.Errno {
	if e := v.ahead(isFirst(n)); e != api.OK {
		return e
	}
	f := &v.firsts[n]
	if f.kind != table {
		return api.ErrNone
	}
	for i, w := range f.words {
		if w == 0 || w != f.words[0]+uint32(256*i) {
			return api.ErrState
		}
	}
	if f.words[0]/256%64 != 0 {
		return api.ErrState
	}
	m.swap(v, v.root, n, cell(valid, f.frame), f.words[0]+block)
	m.owners[f.frame] = 0
	*f = first{kind: run, frame: int(f.words[0] / 256), bits: int(f.words[0]) & (write + exec)}
	return api.OK
}

func (m *model) destroy(v *view) {
	v.log = nil
	if v.gone {
		return
	}
	v.gone = true
	m.drop(v)
	m.owners[v.root] = 0
	for n, f := range v.firsts {
		if f.kind == table {
			m.owners[f.frame] = 0
		}
		v.firsts[n] = first{}
	}
}

// look: the entry of a page.
func (v *view) look(page int) (entry.Entry, bool) {
	if !isPage(page) || !v.told(page) {
		return entry.Entry{}, false
	}
	f := v.firsts[page/64]
	if f.kind == run {
		return entry.Entry{Valid: true, Write: f.bits&write != 0, Exec: f.bits&exec != 0, Block: true, Frame: f.frame + page%64}, true
	}
	w := f.words[page%64]
	return entry.Entry{Valid: true, Write: w&write != 0, Exec: w&exec != 0, Frame: int(w / 256)}, true
}

// pages: the pages that are told.
func (v *view) pages() []int {
	var list []int
	for page := range 4096 {
		if v.told(page) {
			list = append(list, page)
		}
	}
	return list
}

// tables: how many frames the tables have.
func (v *view) tables() int {
	if v.gone {
		return 0
	}
	n := 1
	for _, f := range v.firsts {
		if f.kind == table {
			n++
		}
	}
	return n
}

// hall is spaces, and what they stand on, each beside the model's.
type hall struct {
	t      *testing.T
	m      *phys.Mem
	f      *frames.Table
	c      *tlb.Tlb
	spaces []*stage.Space
	model  model
	views  []*view
}

// open: a hall of so many frames, with entries of the vmids 1 to 8 in its TLB.
func open(t *testing.T, many int) *hall {
	t.Helper()
	m, e := phys.New(many)
	f, e2 := frames.New(many)
	c, e3 := tlb.New(64)
	if e != api.OK || e2 != api.OK || e3 != api.OK {
		t.Fatal(e, e2, e3)
	}
	h := &hall{t: t, m: m, f: f, c: c, model: model{bytes: make([][256]byte, many), owners: make([]int, many)}}
	h.refill()
	return h
}

// refill: the TLB has entries of the vmids 1 to 8 again.
func (h *hall) refill() {
	for vmid := 1; vmid <= 8; vmid++ {
		for page := range 3 {
			h.c.Fill(tlb.Slot{Vmid: vmid, Page: page, Frame: 10*vmid + page, Write: page == 1})
		}
	}
	h.model.slots = h.c.List()
}

// begin: a new space of a vmid: which one?
func (h *hall) begin(vmid int) int {
	h.t.Helper()
	s, e := stage.New(h.m, h.f, h.c, vmid)
	v, want := h.model.begin(vmid)
	if e != want || e != api.OK {
		h.t.Fatalf("New(%d): %v, not %v", vmid, e, want)
	}
	h.spaces, h.views = append(h.spaces, s), append(h.views, v)
	h.same()
	return len(h.spaces) - 1
}

// foul lays bytes of its own into a frame.
func (h *hall) foul(frame int) {
	h.t.Helper()
	for i := range 256 {
		h.m.PutByte(uint32(256*frame+i), byte(frame+i)|1)
		h.model.bytes[frame][i] = byte(frame+i) | 1
	}
}

// use makes so many frames that are nobody's an owner's: which?
func (h *hall) use(owner, many int) []int {
	h.t.Helper()
	var list []int
	for range many {
		frame, e := h.f.Take(owner)
		if e != api.OK {
			h.t.Fatalf("Take(%d): %v", owner, e)
		}
		h.model.owners[frame] = owner
		list = append(list, frame)
	}
	return list
}

// free makes an owner's frame nobody's.
func (h *hall) free(owner, frame int) {
	h.t.Helper()
	if e := h.f.Give(owner, frame); e != api.OK {
		h.t.Fatalf("Give(%d, %d): %v", owner, frame, e)
	}
	h.model.owners[frame] = 0
}

// fill: no frame is nobody's any more.
func (h *hall) fill() []int {
	h.t.Helper()
	return h.use(2, h.f.Count(0))
}

// same holds everything against the model's, but for the pages of tables that are long to tell.
func (h *hall) same() {
	h.t.Helper()
	for n, want := range h.model.bytes {
		if b, e := h.m.Frame(n); e != api.OK || !slices.Equal(b, want[:]) {
			h.t.Fatalf("the frame %d has the bytes %v, not %v", n, b, want)
		}
	}
	for n, want := range h.model.owners {
		if got := h.f.Owner(n); got != want {
			h.t.Fatalf("the frame %d is of %d, not of %d", n, got, want)
		}
	}
	if got := h.c.List(); !slices.Equal(got, h.model.slots) {
		h.t.Fatalf("the TLB has %v, not %v", got, h.model.slots)
	}
	for k, s := range h.spaces {
		v := h.views[k]
		if got := s.Tables(); got != v.tables() {
			h.t.Fatalf("%d: Tables: %d, not %d", k, got, v.tables())
		}
		if got := s.Log(); !slices.Equal(got, v.log) {
			h.t.Fatalf("%d: Log: %v, not %v", k, got, v.log)
		}
		if s.Vmid() != v.vmid || !v.gone && s.Root() != v.root {
			h.t.Fatalf("%d: Vmid %d and Root %d, not %d and %d", k, s.Vmid(), s.Root(), v.vmid, v.root)
		}
	}
}

// pagesSame holds all pages of all spaces against the model's.
func (h *hall) pagesSame() {
	h.t.Helper()
	for k, s := range h.spaces {
		v := h.views[k]
		if got, want := s.Pages(), v.pages(); !slices.Equal(got, want) {
			h.t.Fatalf("%d: Pages: %v, not %v", k, got, want)
		}
		for page := -1; page <= 4096; page++ {
			e, ok := s.Look(page)
			want, there := v.look(page)
			if e != want || ok != there {
				h.t.Fatalf("%d: Look(%d): %v %v, not %v %v", k, page, e, ok, want, there)
			}
		}
	}
}

// guarded holds that in a log of what was done to these words no valid one follows another one in its entry without 0 and a drop in between.
func (h *hall) guarded(words []uint32, log []stage.Deed) {
	h.t.Helper()
	// Which entries had a valid word since the last drop: it may be kept in the TLB.
	kept := make([]bool, len(words))
	forget := func() {
		for at, w := range words {
			kept[at] = w%2 == 1
		}
	}
	forget()
	for i, d := range log {
		if d == (stage.Deed{Kind: 2}) {
			forget()
			continue
		}
		if d.Kind != 1 || d.Addr%4 != 0 {
			h.t.Fatalf("%v is no deed: %v", d, log)
		}
		at := d.Addr / 4
		if kept[at] && (d.Value != 0 || i+1 == len(log) || log[i+1].Kind != 2) {
			h.t.Fatalf("%v puts a word behind a valid one without 0 and a drop: %v", d, log)
		}
		words[at] = d.Value
		kept[at] = kept[at] || d.Value%2 == 1
	}
}

// words: the memory's words.
func (h *hall) words() []uint32 {
	list := make([]uint32, 0, 64*h.m.Frames())
	for _, b := range h.model.bytes {
		for i := 0; i < 256; i += 4 {
			list = append(list, uint32(b[i])|uint32(b[i+1])<<8|uint32(b[i+2])<<16|uint32(b[i+3])<<24)
		}
	}
	return list
}

// did holds what a call of the space k told, and all that it did, against the model's.
func (h *hall) did(k int, call string, e, want api.Errno) {
	h.t.Helper()
	if e != want {
		h.t.Fatalf("%d: %s: %v, not %v", k, call, e, want)
	}
	if e != api.OK && len(h.spaces[k].Log()) != 0 {
		h.t.Fatalf("%d: %s: %v, and the log is %v", k, call, e, h.spaces[k].Log())
	}
	h.same()
}

// both does a thing to the space k and to the model's, and tells its error.
func (h *hall) both(k int, call string, it func(s *stage.Space) api.Errno, its func(v *view) api.Errno) api.Errno {
	h.t.Helper()
	words, owners := h.words(), slices.Clone(h.model.owners)
	e, want := it(h.spaces[k]), its(h.views[k])
	h.did(k, call, e, want)
	for frame, owner := range owners {
		if owner == 0 && h.model.owners[frame] == 1 {
			// A frame that was taken was filled with noughts, ahead of all that was put into it.
			clear(words[64*frame : 64*frame+64])
		}
	}
	h.guarded(words, h.spaces[k].Log())
	return e
}

func (h *hall) mapPage(k, page, frame int, w, x bool) api.Errno {
	h.t.Helper()
	return h.both(k, "Map", func(s *stage.Space) api.Errno { return s.Map(page, frame, w, x) }, func(v *view) api.Errno { return h.model.mapPage(v, page, frame, w, x) })
}

func (h *hall) mapRun(k, n, frame int, w, x bool) api.Errno {
	h.t.Helper()
	return h.both(k, "MapRun", func(s *stage.Space) api.Errno { return s.MapRun(n, frame, w, x) }, func(v *view) api.Errno { return h.model.mapRun(v, n, frame, w, x) })
}

func (h *hall) unmap(k, page int) api.Errno {
	h.t.Helper()
	return h.both(k, "Unmap", func(s *stage.Space) api.Errno { return s.Unmap(page) }, func(v *view) api.Errno { return h.model.unmap(v, page) })
}

func (h *hall) protect(k, page int, w, x bool) api.Errno {
	h.t.Helper()
	return h.both(k, "Protect", func(s *stage.Space) api.Errno { return s.Protect(page, w, x) }, func(v *view) api.Errno { return h.model.protect(v, page, w, x) })
}

func (h *hall) split(k, n int) api.Errno {
	h.t.Helper()
	return h.both(k, "Split", func(s *stage.Space) api.Errno { return s.Split(n) }, func(v *view) api.Errno { return h.model.split(v, n) })
}

func (h *hall) merge(k, n int) api.Errno {
	h.t.Helper()
	return h.both(k, "Merge", func(s *stage.Space) api.Errno { return s.Merge(n) }, func(v *view) api.Errno { return h.model.merge(v, n) })
}

func (h *hall) destroy(k int) {
	h.t.Helper()
	h.spaces[k].Destroy()
	h.model.destroy(h.views[k])
	h.same()
}
