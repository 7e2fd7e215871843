package vmid_test

import (
	"math"
	"slices"
	"testing"

	"warder/api"
	"warder/vmid"
)

// model is the numbers from 1 on, as the chapter's sentences tell them: what isn't in one of the lists is free.
type model struct {
	most         int
	taken, stale []int
}

// there: is there such a number?
func (m *model) there(n int) bool { return n > 0 && n < m.most+1 }

func (m *model) take() (int, api.Errno) {
	for n := 1; m.there(n); n++ {
		if !slices.Contains(m.taken, n) && !slices.Contains(m.stale, n) {
			m.taken = append(m.taken, n)
			return n, api.OK
		}
	}
	if len(m.taken) == m.most {
		return 0, api.ErrFull
	}
	return 0, api.ErrBusy
}

func (m *model) give(n int) api.Errno {
	if !m.there(n) {
		return api.ErrRange
	}
	i := slices.Index(m.taken, n)
	if i < 0 {
		return api.ErrNone
	}
	m.taken = slices.Delete(m.taken, i, i+1)
	m.stale = append(m.stale, n)
	return api.OK
}

func (m *model) dropped() int {
	many := len(m.stale)
	m.stale = nil
	return many
}

func (m *model) state(n int) int {
	switch {
	case !m.there(n):
		return -1
	case slices.Contains(m.taken, n):
		return 1
	case slices.Contains(m.stale, n):
		return 2
	}
	return 0
}

// pair is a pool, and its model.
type pair struct {
	t *testing.T
	p *vmid.Pool
	m *model
}

// open: a pair of so many numbers, all of them free.
func open(t *testing.T, most int) *pair {
	t.Helper()
	pool, e := vmid.New(most)
	if pool == nil || e != api.OK {
		t.Fatalf("New(%d): %v %v", most, pool, e)
	}
	p := &pair{t, pool, &model{most: most}}
	p.same()
	return p
}

// all: the states of a pool's numbers, of 0, and of those beyond the last.
func all(p *vmid.Pool) (list [260]int) {
	for n := range list {
		list[n] = p.State(n)
	}
	return list
}

// still holds that a call with an error left the pool as it was.
func (p *pair) still(call string, before [260]int, e api.Errno) {
	p.t.Helper()
	if after := all(p.p); e != api.OK && after != before {
		p.t.Fatalf("%s: %v, and the pool is changed from %v to %v", call, e, before, after)
	}
}

// take takes a number, and holds what is answered against the model's.
func (p *pair) take() (int, api.Errno) {
	p.t.Helper()
	before := all(p.p)
	n, e := p.p.Take()
	if want, wrong := p.m.take(); n != want || e != wrong {
		p.t.Fatalf("Take: %d %v, not %d %v", n, e, want, wrong)
	}
	p.still("Take", before, e)
	return n, e
}

// give likewise gives a number back.
func (p *pair) give(n int) api.Errno {
	p.t.Helper()
	before := all(p.p)
	e := p.p.Give(n)
	if want := p.m.give(n); e != want {
		p.t.Fatalf("Give(%d): %v, not %v", n, e, want)
	}
	p.still("Give", before, e)
	return e
}

// dropped likewise makes all stale numbers free.
func (p *pair) dropped() int {
	p.t.Helper()
	many := p.p.Dropped()
	if want := p.m.dropped(); many != want {
		p.t.Fatalf("Dropped: %d, not %d", many, want)
	}
	return many
}

// same holds all that the pool tells against the model.
func (p *pair) same() {
	p.t.Helper()
	for n, got := range all(p.p) {
		if want := p.m.state(n); got != want {
			p.t.Fatalf("State(%d): %d, not %d", n, got, want)
		}
	}
	for _, n := range []int{-1, math.MinInt, math.MaxInt} {
		if got := p.p.State(n); got != -1 {
			p.t.Fatalf("State(%d): %d, not -1", n, got)
		}
	}
	if got, want := p.p.Taken(), slices.Sorted(slices.Values(p.m.taken)); !slices.Equal(got, want) {
		p.t.Fatalf("Taken: %v, not %v", got, want)
	}
}
