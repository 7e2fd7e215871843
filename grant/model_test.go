package grant_test

import (
	"math"
	"slices"
	"testing"

	"warder/api"
	"warder/grant"
)

// model is the grants that aren't free, by their numbers, as the chapter's sentences tell them.
type model map[int]grant.Grant

// isGuest: is it one of the guests?
func isGuest(n int) bool { return slices.Contains([]int{2, 3, 4, 5, 6, 7, 8, 9}, n) }

// isNumber: is it the number of one of the 32 grants?
func isNumber(id int) bool { return id > -1 && id < 32 }

func (m model) offer(owner, frame, to int, write bool) (int, api.Errno) {
	if !isGuest(owner) || !isGuest(to) || owner == to || frame < 0 {
		return -1, api.ErrRange
	}
	for _, x := range m {
		if x.Owner == owner && x.Frame == frame && x.To == to {
			return -1, api.ErrThere
		}
	}
	for id := range 32 {
		if _, used := m[id]; !used {
			m[id] = grant.Grant{State: 1, Owner: owner, Frame: frame, To: to, Write: write}
			return id, api.OK
		}
	}
	return -1, api.ErrFull
}

func (m model) accept(id, to, page int) (grant.Grant, api.Errno) {
	x, used := m[id]
	switch {
	case !isNumber(id), !isGuest(to), page < 0, page > 4095:
		return grant.Grant{}, api.ErrRange
	case !used, x.To != to:
		return grant.Grant{}, api.ErrNone
	case x.State == 2:
		return grant.Grant{}, api.ErrState
	}
	for _, other := range m {
		if other.State == 2 && other.To == to && other.Page == page {
			return grant.Grant{}, api.ErrBusy
		}
	}
	x.State = 2
	x.Page = page
	m[id] = x
	return x, api.OK
}

func (m model) leave(id, to int) (grant.Grant, api.Errno) {
	was, used := m[id]
	switch {
	case !isNumber(id), !isGuest(to):
		return grant.Grant{}, api.ErrRange
	case !used, was.To != to:
		return grant.Grant{}, api.ErrNone
	case was.State == 1:
		return grant.Grant{}, api.ErrState
	}
	m[id] = grant.Grant{State: 1, Owner: was.Owner, Frame: was.Frame, To: was.To, Write: was.Write}
	return was, api.OK
}

func (m model) revoke(id, owner int) (grant.Grant, api.Errno) {
	was, used := m[id]
	switch {
	case !isNumber(id), !isGuest(owner):
		return grant.Grant{}, api.ErrRange
	case !used, was.Owner != owner:
		return grant.Grant{}, api.ErrOwner
	}
	delete(m, id)
	return was, api.OK
}

func (m model) gone(guest int) []grant.Grant {
	var list []grant.Grant
	for id := range 32 {
		if x, used := m[id]; used && (x.Owner == guest || x.To == guest) {
			list = append(list, x)
			delete(m, id)
		}
	}
	return list
}

func (m model) may(guest, frame int, write bool) bool {
	for _, x := range m {
		if x.State == 2 && x.To == guest && x.Frame == frame && (x.Write || !write) {
			return true
		}
	}
	return false
}

func (m model) at(guest, page int) int {
	for id := range 32 {
		if x, used := m[id]; used && x.State == 2 && x.To == guest && x.Page == page {
			return id
		}
	}
	return -1
}

// pair is a set of grants, and its model.
type pair struct {
	t *testing.T
	g *grant.Grants
	m model
}

// open: a pair of which all grants are free.
func open(t *testing.T) *pair {
	t.Helper()
	p := &pair{t, grant.New(), model{}}
	if p.g == nil {
		t.Fatal("New: nil")
	}
	p.same()
	return p
}

// all: all grants of a set.
func all(g *grant.Grants) (list [32]grant.Grant) {
	for id := range list {
		list[id] = g.Get(id)
	}
	return list
}

// still holds that a call with an error left the grants as they were.
func (p *pair) still(call string, before [32]grant.Grant, e api.Errno) {
	p.t.Helper()
	if after := all(p.g); e != api.OK && after != before {
		p.t.Fatalf("%s: %v, and the grants are changed from %v to %v", call, e, before, after)
	}
}

// offer offers a grant, and holds what is answered against the model's.
func (p *pair) offer(owner, frame, to int, write bool) (int, api.Errno) {
	p.t.Helper()
	before := all(p.g)
	id, e := p.g.Offer(owner, frame, to, write)
	if want, wrong := p.m.offer(owner, frame, to, write); id != want || e != wrong {
		p.t.Fatalf("Offer(%d, %d, %d, %v): %d %v, not %d %v", owner, frame, to, write, id, e, want, wrong)
	}
	p.still("Offer", before, e)
	return id, e
}

// accept likewise takes a grant.
func (p *pair) accept(id, to, page int) (grant.Grant, api.Errno) {
	p.t.Helper()
	before := all(p.g)
	x, e := p.g.Accept(id, to, page)
	if want, wrong := p.m.accept(id, to, page); x != want || e != wrong {
		p.t.Fatalf("Accept(%d, %d, %d): %v %v, not %v %v", id, to, page, x, e, want, wrong)
	}
	p.still("Accept", before, e)
	return x, e
}

// leave likewise leaves a grant.
func (p *pair) leave(id, to int) (grant.Grant, api.Errno) {
	p.t.Helper()
	before := all(p.g)
	x, e := p.g.Leave(id, to)
	if want, wrong := p.m.leave(id, to); x != want || e != wrong {
		p.t.Fatalf("Leave(%d, %d): %v %v, not %v %v", id, to, x, e, want, wrong)
	}
	p.still("Leave", before, e)
	return x, e
}

// revoke likewise makes a grant free.
func (p *pair) revoke(id, owner int) (grant.Grant, api.Errno) {
	p.t.Helper()
	before := all(p.g)
	x, e := p.g.Revoke(id, owner)
	if want, wrong := p.m.revoke(id, owner); x != want || e != wrong {
		p.t.Fatalf("Revoke(%d, %d): %v %v, not %v %v", id, owner, x, e, want, wrong)
	}
	p.still("Revoke", before, e)
	return x, e
}

// gone likewise makes all of a guest's, and to it, free.
func (p *pair) gone(guest int) []grant.Grant {
	p.t.Helper()
	list := p.g.Gone(guest)
	if want := p.m.gone(guest); !slices.Equal(list, want) {
		p.t.Fatalf("Gone(%d): %v, not %v", guest, list, want)
	}
	return list
}

// same holds all that the grants tell against the model.
func (p *pair) same() {
	p.t.Helper()
	for id := -2; id < 35; id++ {
		if got := p.g.Get(id); got != p.m[id] {
			p.t.Fatalf("Get(%d): %v, not %v", id, got, p.m[id])
		}
	}
	pages := []int{-1, 0, 1, 4095, 4096}
	frames := []int{-1, 0, 1, math.MaxInt}
	for _, x := range p.m {
		pages = append(pages, x.Page)
		frames = append(frames, x.Frame)
	}
	for guest := range 12 {
		for _, page := range pages {
			if got, want := p.g.At(guest, page), p.m.at(guest, page); got != want {
				p.t.Fatalf("At(%d, %d): %d, not %d", guest, page, got, want)
			}
		}
		for _, frame := range frames {
			p.sameMay(guest, frame)
		}
	}
}

// sameMay holds what a guest may do with a frame against the model.
func (p *pair) sameMay(guest, frame int) {
	p.t.Helper()
	for _, write := range []bool{false, true} {
		if got, want := p.g.May(guest, frame, write), p.m.may(guest, frame, write); got != want {
			p.t.Fatalf("May(%d, %d, %v): %v, not %v", guest, frame, write, got, want)
		}
	}
}
