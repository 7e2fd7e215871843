package heap_test

import (
	"math"
	"slices"
	"testing"

	"warder/api"
	"warder/heap"
)

// item is a number and its key.
type item struct {
	id  int
	key uint64
}

// model is a plain list of items that is kept in order, as the chapter's sentences tell them.
type model []item

// find: the place of a number's item, or -1.
func (m model) find(id int) int {
	return slices.IndexFunc(m, func(it item) bool { return it.id == id })
}

// insert lays an item into its place.
func (m *model) insert(it item) {
	place := 0
	for place < len(*m) && ((*m)[place].key < it.key || (*m)[place].key == it.key && (*m)[place].id < it.id) {
		place++
	}
	*m = slices.Insert(*m, place, it)
}

func (m *model) push(id int, key uint64) api.Errno {
	if id < 0 || id > 63 {
		return api.ErrRange
	}
	if m.find(id) >= 0 {
		return api.ErrThere
	}
	m.insert(item{id, key})
	return api.OK
}

func (m *model) remove(id int) bool {
	i := m.find(id)
	if i < 0 {
		return false
	}
	*m = slices.Delete(*m, i, i+1)
	return true
}

func (m *model) change(id int, key uint64) api.Errno {
	if id < 0 || id > 63 {
		return api.ErrRange
	}
	if !m.remove(id) {
		return api.ErrNone
	}
	m.insert(item{id, key})
	return api.OK
}

func (m model) min() (int, uint64, bool) {
	if len(m) == 0 {
		return -1, 0, false
	}
	return m[0].id, m[0].key, true
}

func (m *model) pop() (int, uint64, bool) {
	id, key, ok := m.min()
	m.remove(id)
	return id, key, ok
}

func (m model) key(id int) (uint64, bool) {
	if i := m.find(id); i >= 0 {
		return m[i].key, true
	}
	return 0, false
}

// ids: all numbers, in order.
func (m model) ids() []int {
	var ids []int
	for _, it := range m {
		ids = append(ids, it.id)
	}
	return ids
}

// noNumbers: what no item has as its number, such as have the lowest bits of good ones among them.
func noNumbers() []int {
	return []int{-1, -2, -5, -59, -63, -64, -65, -128, -251, -256, math.MinInt32, math.MinInt, math.MinInt + 1, math.MinInt + 5, math.MinInt + 63,
		64, 65, 69, 127, 128, 133, 255, 256, 261, 1000, 65536, 65541, math.MaxInt32, 1 << 31, 1 << 32, 1<<32 + 5, 1<<32 + 63, 1<<56 + 5, 1 << 62, math.MaxInt - 63, math.MaxInt - 1, math.MaxInt}
}

// pair is a heap, and its model.
type pair struct {
	t *testing.T
	h *heap.Heap
	m model
}

// open: a pair without items.
func open(t *testing.T) *pair {
	t.Helper()
	h := heap.New()
	if h == nil {
		t.Fatal("New: nil")
	}
	p := &pair{t: t, h: h}
	p.same()
	return p
}

// push pushes an item, and holds what is answered against the model's.
func (p *pair) push(id int, key uint64) api.Errno {
	p.t.Helper()
	e := p.h.Push(id, key)
	if want := p.m.push(id, key); e != want {
		p.t.Fatalf("Push(%d, %d): %v, not %v", id, key, e, want)
	}
	return e
}

// change likewise changes an item's key.
func (p *pair) change(id int, key uint64) api.Errno {
	p.t.Helper()
	e := p.h.Change(id, key)
	if want := p.m.change(id, key); e != want {
		p.t.Fatalf("Change(%d, %d): %v, not %v", id, key, e, want)
	}
	return e
}

// remove likewise removes a number's item.
func (p *pair) remove(id int) bool {
	p.t.Helper()
	was := p.h.Remove(id)
	if want := p.m.remove(id); was != want {
		p.t.Fatalf("Remove(%d): %v, not %v", id, was, want)
	}
	return was
}

// pop likewise pops the first item.
func (p *pair) pop() (int, uint64, bool) {
	p.t.Helper()
	id, key, ok := p.h.Pop()
	if wid, wkey, wok := p.m.pop(); id != wid || key != wkey || ok != wok {
		p.t.Fatalf("Pop: %d %d %v, not %d %d %v", id, key, ok, wid, wkey, wok)
	}
	return id, key, ok
}

// brief holds the first item, the count and the list against the model.
func (p *pair) brief() {
	p.t.Helper()
	id, key, ok := p.h.Min()
	if wid, wkey, wok := p.m.min(); id != wid || key != wkey || ok != wok {
		p.t.Fatalf("Min: %d %d %v, not %d %d %v", id, key, ok, wid, wkey, wok)
	}
	if n := p.h.Len(); n != len(p.m) {
		p.t.Fatalf("Len: %d, not %d", n, len(p.m))
	}
	if ids, want := p.h.List(), p.m.ids(); !slices.Equal(ids, want) {
		p.t.Fatalf("List: %v, not %v", ids, want)
	}
}

// same holds all that the heap tells against the model.
func (p *pair) same() {
	p.t.Helper()
	p.brief()
	for id := range 64 {
		key, ok := p.h.Key(id)
		if want, there := p.m.key(id); key != want || ok != there {
			p.t.Fatalf("Key(%d): %d %v, not %d %v", id, key, ok, want, there)
		}
	}
	for _, id := range noNumbers() {
		if key, ok := p.h.Key(id); key != 0 || ok {
			p.t.Fatalf("Key(%d): %d %v", id, key, ok)
		}
	}
}
