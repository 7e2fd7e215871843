package refill_test

import (
	"math"
	"slices"
	"testing"

	"warder/api"
	"warder/refill"
)

// last is the last time, and the greatest amount.
const last uint64 = 4611686018427387904

// most is the greatest number.
const most uint64 = math.MaxUint64

// model is a room, and a plain list of refills that each call puts together anew, as the chapter's sentences tell them.
type model struct {
	room int
	list []refill.Refill
}

// total: all amounts, together. They are no more than last, and so are two such sums no more than 2^63.
func (m *model) total() uint64 {
	sum := uint64(0)
	for _, r := range m.list {
		sum += r.Amount
	}
	return sum
}

func (m *model) push(at, amount uint64) api.Errno {
	if amount == 0 || amount > last || at > last {
		return api.ErrRange
	}
	many := len(m.list)
	if many > 0 && at < m.list[many-1].At {
		return api.ErrRange
	}
	if m.total()+amount > last {
		return api.ErrMany
	}
	var list []refill.Refill
	for i, r := range m.list {
		if i == many-1 && (many == m.room || r.At == at) {
			amount += r.Amount
			continue
		}
		list = append(list, r)
	}
	m.list = append(list, refill.Refill{At: at, Amount: amount})
	return api.OK
}

func (m *model) take(now uint64) uint64 {
	var stay []refill.Refill
	sum := uint64(0)
	for _, r := range m.list {
		if r.At > now {
			stay = append(stay, r)
		} else {
			sum += r.Amount
		}
	}
	m.list = stay
	return sum
}

func (m *model) next() (uint64, bool) {
	for _, r := range m.list {
		return r.At, true
	}
	return 0, false
}

// pair is a row, and its model.
type pair struct {
	t *testing.T
	q *refill.Row
	m *model
}

// open: a pair of that room, without refills.
func open(t *testing.T, room int) *pair {
	t.Helper()
	q, e := refill.New(room)
	if q == nil || e != api.OK {
		t.Fatalf("New(%d): %v %v", room, q, e)
	}
	p := &pair{t, q, &model{room: room}}
	p.same()
	return p
}

// push pushes a refill, and holds what is answered, and what the row is then, against the model.
func (p *pair) push(at, amount uint64) api.Errno {
	p.t.Helper()
	before := p.m.list
	e := p.q.Push(at, amount)
	if want := p.m.push(at, amount); e != want {
		p.t.Fatalf("Push(%d, %d) behind %v of room %d: %v, not %v", at, amount, before, p.m.room, e, want)
	}
	p.same()
	return e
}

// take likewise takes what is due.
func (p *pair) take(now uint64) uint64 {
	p.t.Helper()
	before := p.m.list
	amount := p.q.Take(now)
	if want := p.m.take(now); amount != want {
		p.t.Fatalf("Take(%d) of %v: %d, not %d", now, before, amount, want)
	}
	p.same()
	return amount
}

// clear likewise clears the row.
func (p *pair) clear() {
	p.t.Helper()
	p.q.Clear()
	p.m.list = nil
	p.same()
}

// same holds all that the row tells against the model.
func (p *pair) same() {
	p.t.Helper()
	if list := p.q.List(); !slices.Equal(list, p.m.list) {
		p.t.Fatalf("List of room %d: %v, not %v", p.m.room, list, p.m.list)
	}
	at, ok := p.q.Next()
	if want, there := p.m.next(); at != want || ok != there {
		p.t.Fatalf("Next of %v: %d %v, not %d %v", p.m.list, at, ok, want, there)
	}
	if sum, want := p.q.Total(), p.m.total(); sum != want {
		p.t.Fatalf("Total of %v: %d, not %d", p.m.list, sum, want)
	}
}
