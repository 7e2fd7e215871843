package wheel_test

import (
	"math"
	"slices"
	"testing"

	"warder/api"
	"warder/wheel"
)

// last is the last time.
const last uint64 = 4611686018427387904

// model is a time, and a plain list of timers that is kept in order, as the chapter's sentences tell them.
type model struct {
	now  uint64
	list []wheel.Due
}

// ahead: does a timer come ahead of another one?
func ahead(a, b wheel.Due) bool {
	if a.At == b.At {
		return a.Id < b.Id
	}
	return a.At < b.At
}

// find: the place of a number's timer, or -1.
func (m *model) find(id int) int {
	return slices.IndexFunc(m.list, func(d wheel.Due) bool { return d.Id == id })
}

func (m *model) add(id int, at uint64) api.Errno {
	if id < 0 || id > 999 || at > last {
		return api.ErrRange
	}
	if m.find(id) >= 0 {
		return api.ErrThere
	}
	place := 0
	for place < len(m.list) && ahead(m.list[place], wheel.Due{Id: id, At: at}) {
		place++
	}
	m.list = slices.Insert(m.list, place, wheel.Due{Id: id, At: at})
	return api.OK
}

func (m *model) cancel(id int) bool {
	i := m.find(id)
	if i < 0 {
		return false
	}
	m.list = slices.Delete(m.list, i, i+1)
	return true
}

func (m *model) advance(to uint64) []wheel.Due {
	if to > last {
		return nil
	}
	if to > m.now {
		m.now = to
	}
	many := 0
	for many < len(m.list) && m.list[many].At <= m.now {
		many++
	}
	due := slices.Clone(m.list[:many])
	m.list = slices.Delete(m.list, 0, many)
	return due
}

func (m *model) next() (wheel.Due, bool) {
	if len(m.list) == 0 {
		return wheel.Due{}, false
	}
	return m.list[0], true
}

// pair is a wheel, and its model.
type pair struct {
	t *testing.T
	w *wheel.Wheel
	m *model
}

// open: a pair at a time, without timers.
func open(t *testing.T, now uint64) *pair {
	t.Helper()
	w, e := wheel.New(now)
	if w == nil || e != api.OK {
		t.Fatalf("New(%d): %v %v", now, w, e)
	}
	p := &pair{t, w, &model{now: now}}
	p.same()
	return p
}

// add adds a timer, and holds what is answered against the model's.
func (p *pair) add(id int, at uint64) api.Errno {
	p.t.Helper()
	e := p.w.Add(id, at)
	if want := p.m.add(id, at); e != want {
		p.t.Fatalf("Add(%d, %d) at %d: %v, not %v", id, at, p.m.now, e, want)
	}
	return e
}

// cancel likewise cancels a number's timer.
func (p *pair) cancel(id int) bool {
	p.t.Helper()
	was := p.w.Cancel(id)
	if want := p.m.cancel(id); was != want {
		p.t.Fatalf("Cancel(%d) at %d: %v, not %v", id, p.m.now, was, want)
	}
	return was
}

// advance likewise lets the time go on.
func (p *pair) advance(to uint64) []wheel.Due {
	p.t.Helper()
	before := p.m.now
	due := p.w.Advance(to)
	if want := p.m.advance(to); !slices.Equal(due, want) {
		p.t.Fatalf("Advance(%d) at %d: %v, not %v", to, before, due, want)
	}
	p.brief()
	return due
}

// brief holds the time, the count and the first timer against the model.
func (p *pair) brief() {
	p.t.Helper()
	if now := p.w.Now(); now != p.m.now {
		p.t.Fatalf("Now: %d, not %d", now, p.m.now)
	}
	if n := p.w.Len(); n != len(p.m.list) {
		p.t.Fatalf("Len at %d: %d, not %d", p.m.now, n, len(p.m.list))
	}
	d, ok := p.w.Next()
	if want, there := p.m.next(); d != want || ok != there {
		p.t.Fatalf("Next at %d: %v %v, not %v %v", p.m.now, d, ok, want, there)
	}
}

// same holds all that the wheel tells against the model.
func (p *pair) same() {
	p.t.Helper()
	p.brief()
	var at [1000]uint64
	var there [1000]bool
	for _, d := range p.m.list {
		at[d.Id], there[d.Id] = d.At, true
	}
	for id := range at {
		if got, ok := p.w.At(id); got != at[id] || ok != there[id] {
			p.t.Fatalf("At(%d): %d %v, not %d %v", id, got, ok, at[id], there[id])
		}
	}
	for _, id := range []int{-1, 1000, math.MinInt, math.MaxInt} {
		if got, ok := p.w.At(id); got != 0 || ok {
			p.t.Fatalf("At(%d): %d %v", id, got, ok)
		}
	}
}
