package grant_test

import (
	"math"
	"slices"
	"testing"

	"warder/api"
	"warder/grant"
)

// offered: a grant that is offered.
func offered(owner, frame, to int, write bool) grant.Grant {
	return grant.Grant{State: grant.SOffered, Owner: owner, Frame: frame, To: to, Write: write}
}

// taken: a grant that is taken at a page.
func taken(owner, frame, to int, write bool, page int) grant.Grant {
	return grant.Grant{State: grant.STaken, Owner: owner, Frame: frame, To: to, Write: write, Page: page}
}

// told holds an error against the one that should be told.
func told(t *testing.T, call string, got, want api.Errno) {
	t.Helper()
	if got != want {
		t.Fatalf("%s: %v, not %v", call, got, want)
	}
}

// offers offers a grant, and holds its number against the one it should have.
func (p *pair) offers(owner, frame, to int, write bool, want int) {
	p.t.Helper()
	if id, e := p.offer(owner, frame, to, write); id != want || e != api.OK {
		p.t.Fatalf("Offer(%d, %d, %d, %v): %d %v, not %d", owner, frame, to, write, id, e, want)
	}
	p.holds(want, offered(owner, frame, to, write))
}

// takes takes a grant at a page, and holds what is answered against what it should be then.
func (p *pair) takes(id, page int, want grant.Grant) {
	p.t.Helper()
	if x, e := p.accept(id, want.To, page); x != want || e != api.OK {
		p.t.Fatalf("Accept(%d, %d, %d): %v %v, not %v", id, want.To, page, x, e, want)
	}
	p.holds(id, want)
}

// leaves leaves a grant, and holds what is answered against what it should have been.
func (p *pair) leaves(id int, was grant.Grant) {
	p.t.Helper()
	if x, e := p.leave(id, was.To); x != was || e != api.OK {
		p.t.Fatalf("Leave(%d, %d): %v %v, not %v", id, was.To, x, e, was)
	}
	p.holds(id, offered(was.Owner, was.Frame, was.To, was.Write))
}

// revokes makes a grant free, and holds what is answered against what it should have been.
func (p *pair) revokes(id int, was grant.Grant) {
	p.t.Helper()
	if x, e := p.revoke(id, was.Owner); x != was || e != api.OK {
		p.t.Fatalf("Revoke(%d, %d): %v %v, not %v", id, was.Owner, x, e, was)
	}
	p.holds(id, grant.Grant{})
}

// goes makes all of a guest's, and to it, free, and holds what is answered against these.
func (p *pair) goes(guest int, want ...grant.Grant) {
	p.t.Helper()
	if list := p.gone(guest); !slices.Equal(list, want) {
		p.t.Fatalf("Gone(%d): %v, not %v", guest, list, want)
	}
	p.same()
}

// holds holds a grant against what it should be.
func (p *pair) holds(id int, want grant.Grant) {
	p.t.Helper()
	if got := p.g.Get(id); got != want {
		p.t.Fatalf("Get(%d): %v, not %v", id, got, want)
	}
	p.same()
}

// noOffer holds that nothing is offered, with this error.
func (p *pair) noOffer(owner, frame, to int, want api.Errno) {
	p.t.Helper()
	for _, write := range []bool{false, true} {
		if id, e := p.offer(owner, frame, to, write); id != -1 || e != want {
			p.t.Fatalf("Offer(%d, %d, %d, %v): %d %v, not -1 and %v", owner, frame, to, write, id, e, want)
		}
	}
	p.same()
}

// noAccept holds that nothing is taken, with this error.
func (p *pair) noAccept(id, to, page int, want api.Errno) {
	p.t.Helper()
	if x, e := p.accept(id, to, page); x != (grant.Grant{}) || e != want {
		p.t.Fatalf("Accept(%d, %d, %d): %v %v, not noughts and %v", id, to, page, x, e, want)
	}
	p.same()
}

// noLeave holds that nothing is left, with this error.
func (p *pair) noLeave(id, to int, want api.Errno) {
	p.t.Helper()
	if x, e := p.leave(id, to); x != (grant.Grant{}) || e != want {
		p.t.Fatalf("Leave(%d, %d): %v %v, not noughts and %v", id, to, x, e, want)
	}
	p.same()
}

// noRevoke holds that nothing is made free, with this error.
func (p *pair) noRevoke(id, owner int, want api.Errno) {
	p.t.Helper()
	if x, e := p.revoke(id, owner); x != (grant.Grant{}) || e != want {
		p.t.Fatalf("Revoke(%d, %d): %v %v, not noughts and %v", id, owner, x, e, want)
	}
	p.same()
}

// may holds what a guest may do with a frame: read, and write.
func (p *pair) may(guest, frame int, read, write bool) {
	p.t.Helper()
	r, w := p.g.May(guest, frame, false), p.g.May(guest, frame, true)
	if r != read || w != write {
		p.t.Fatalf("May(%d, %d): %v %v, not %v %v", guest, frame, r, w, read, write)
	}
}

// at holds the number of the grant that a guest has taken at a page.
func (p *pair) at(guest, page, want int) {
	p.t.Helper()
	if id := p.g.At(guest, page); id != want {
		p.t.Fatalf("At(%d, %d): %d, not %d", guest, page, id, want)
	}
}

// full: a pair of which no grant is free: number n is of the frame n, and each third one is taken, at the page n.
func full(t *testing.T) *pair {
	t.Helper()
	p := open(t)
	for id := range 32 {
		owner, to := 2+id%8, 2+(id+1+id/8)%8
		p.offers(owner, id, to, id%2 == 0, id)
		if id%3 == 0 {
			p.takes(id, id, taken(owner, id, to, id%2 == 0, id))
		}
	}
	return p
}

// far: numbers below 0, and great ones, such as have the lowest bits of good ones among them.
func far() []int {
	return []int{-1, -2, -3, -9, -32, -255, -256, math.MinInt32, math.MinInt32 + 2, math.MinInt, math.MinInt + 1, math.MinInt + 2, math.MinInt + 3, 4096, 4097, 4098, 65536, 65538, 1 << 24, 1<<24 + 2,
		math.MaxInt32, 1 << 31, 1 << 32, 1<<32 + 1, 1<<32 + 2, 1<<32 + 3, 1<<32 + 9, 1<<56 + 2, 1 << 62, 1<<62 + 3, math.MaxInt - 1, math.MaxInt}
}

// noGuests: numbers that are no guest's: nobody, the monitor, and all outside.
func noGuests() []int {
	return append([]int{0, 1, 10, 11, 12, 16, 18, 31, 32, 34, 64, 255, 256, 257, 258}, far()...)
}

// noNumbers: numbers that no grant has.
func noNumbers() []int { return append([]int{32, 33, 34, 63, 64, 255, 256, 1024}, far()...) }

// noPages: numbers that are no page's.
func noPages() []int { return append([]int{4103, 4104, 8191, 8192, 1 << 20}, far()...) }

// The states' numbers.
func TestStates(t *testing.T) {
	if grant.SFree != 0 || grant.SOffered != 1 || grant.STaken != 2 {
		t.Fatal(grant.SFree, grant.SOffered, grant.STaken)
	}
}

// The chapter's example.
func TestExample(t *testing.T) {
	p := open(t)
	p.offers(2, 7, 3, true, 0)
	p.takes(0, 40, taken(2, 7, 3, true, 40))
	if x, e := p.revoke(0, 2); x.Page != 40 || e != api.OK {
		t.Fatal(x, e)
	}
	p.holds(0, grant.Grant{})
}

// New: all grants are free.
func TestNew(t *testing.T) {
	p := open(t)
	if list := all(p.g); list != ([32]grant.Grant{}) {
		t.Fatal(list)
	}
	for guest := range 12 {
		p.at(guest, 0, -1)
		p.may(guest, 0, false, false)
		p.goes(guest)
	}
}

// P12.1, Offer: an owner, or one to whom it is made, that is no guest, with the other one a guest and none, and frames that are good ones.
func TestOfferNoGuest(t *testing.T) {
	p := open(t)
	for _, wrong := range noGuests() {
		for _, frame := range []int{0, 5, math.MaxInt} {
			p.noOffer(wrong, frame, 3, api.ErrRange)
			p.noOffer(3, frame, wrong, api.ErrRange)
			p.noOffer(wrong, frame, wrong, api.ErrRange)
			p.noOffer(wrong, frame, 1, api.ErrRange)
		}
	}
	for guest := 2; guest <= 9; guest++ {
		for _, wrong := range []int{1, 10, 0, -1} {
			p.noOffer(wrong, 5, guest, api.ErrRange)
			p.noOffer(guest, 5, wrong, api.ErrRange)
		}
	}
	p.offers(2, 5, 9, false, 0)
}

// P12.1, Offer: of a guest to itself.
func TestOfferItself(t *testing.T) {
	p := open(t)
	for guest := 2; guest <= 9; guest++ {
		for _, frame := range []int{0, 1, guest, 1023, math.MaxInt} {
			p.noOffer(guest, frame, guest, api.ErrRange)
		}
	}
}

// P12.1, Offer: a frame below 0.
func TestOfferBelow(t *testing.T) {
	p := open(t)
	for _, frame := range far() {
		if frame < 0 {
			p.noOffer(2, frame, 3, api.ErrRange)
			p.noOffer(9, frame, 8, api.ErrRange)
		}
	}
	p.offers(2, 0, 3, true, 0)
}

// P12.1, Offer: each guest to each other one, of frame 0 and of great ones; frames with the same lowest bits are others.
func TestOffer(t *testing.T) {
	for _, frame := range []int{0, 1, 5, 255, 256, 1023, 1024, 4096, math.MaxInt32, 1 << 32, 1<<32 + 5, 1 << 62, math.MaxInt} {
		for _, write := range []bool{false, true} {
			for owner := 2; owner <= 9; owner++ {
				p, id := open(t), 0
				for to := 2; to <= 9; to++ {
					if to != owner {
						p.offers(owner, frame, to, write, id)
						id++
					}
				}
			}
		}
	}
	p := open(t)
	for id, frame := range []int{5, 5 + 256, 5 + 1024, 5 + 1<<16, 5 + 1<<31, 5 + 1<<32, 5 + 1<<62} {
		p.offers(2, frame, 3, false, id)
	}
}

// P12.1, Offer: the same owner, frame and taker twice, with the same Write and the other one, while the first is offered and while it is taken.
func TestOfferThere(t *testing.T) {
	for _, write := range []bool{false, true} {
		p := open(t)
		p.offers(4, 8, 6, false, 0)
		p.offers(2, 5, 3, write, 1)
		p.noOffer(2, 5, 3, api.ErrThere)
		p.takes(1, 0, taken(2, 5, 3, write, 0))
		p.noOffer(2, 5, 3, api.ErrThere)
		p.leaves(1, taken(2, 5, 3, write, 0))
		p.noOffer(2, 5, 3, api.ErrThere)
		p.noOffer(4, 8, 6, api.ErrThere)
		p.holds(0, offered(4, 8, 6, false))
		p.holds(1, offered(2, 5, 3, write))
	}
}

// P12.1, Offer: the same again once it is free, by Revoke and by the owner's and the taker's Gone.
func TestOfferAgain(t *testing.T) {
	p := open(t)
	p.offers(2, 5, 3, true, 0)
	p.revokes(0, offered(2, 5, 3, true))
	p.offers(2, 5, 3, false, 0)
	p.takes(0, 9, taken(2, 5, 3, false, 9))
	p.revokes(0, taken(2, 5, 3, false, 9))
	p.offers(2, 5, 3, true, 0)
	p.goes(2, offered(2, 5, 3, true))
	p.offers(2, 5, 3, false, 0)
	p.goes(3, offered(2, 5, 3, false))
	p.offers(2, 5, 3, true, 0)
	p.noOffer(2, 5, 3, api.ErrThere)
}

// P12.1, Offer: the same frame to another one, by another owner, and the other way round.
func TestOfferOther(t *testing.T) {
	p := open(t)
	p.offers(2, 5, 3, true, 0)
	p.offers(2, 5, 4, true, 1)
	p.offers(4, 5, 3, true, 2)
	p.offers(3, 5, 2, true, 3)
	p.offers(2, 6, 3, true, 4)
	p.offers(5, 5, 6, true, 5)
	p.noOffer(2, 5, 3, api.ErrThere)
	p.noOffer(2, 5, 4, api.ErrThere)
	p.noOffer(4, 5, 3, api.ErrThere)
	p.noOffer(3, 5, 2, api.ErrThere)
}

// P12.1, Offer: all 32, by their numbers in order, and one more.
func TestOfferFull(t *testing.T) {
	p := open(t)
	for id := range 32 {
		p.offers(2, id, 3, id%2 == 0, id)
	}
	p.noOffer(2, 32, 3, api.ErrFull)
	p.noOffer(4, 0, 5, api.ErrFull)
	p.takes(7, 70, taken(2, 7, 3, false, 70))
	p.noOffer(9, math.MaxInt, 2, api.ErrFull)
	p.revokes(31, offered(2, 31, 3, false))
	p.offers(9, math.MaxInt, 2, true, 31)
	p.noOffer(2, 32, 3, api.ErrFull)
}

// P12.1, Offer: with none free, ErrRange is ahead of ErrFull, and ErrThere too.
func TestOfferOrder(t *testing.T) {
	p := full(t)
	p.noOffer(2, 100, 3, api.ErrFull)
	p.noOffer(2, 100, 2, api.ErrRange)
	p.noOffer(2, -1, 3, api.ErrRange)
	for _, wrong := range noGuests() {
		p.noOffer(wrong, 100, 3, api.ErrRange)
		p.noOffer(3, 100, wrong, api.ErrRange)
	}
	for id, x := range all(p.g) {
		p.noOffer(x.Owner, id, x.To, api.ErrThere)
		p.noOffer(x.Owner, id, x.Owner, api.ErrRange)
		p.noOffer(x.Owner, id, 1, api.ErrRange)
		p.noOffer(10, id, x.To, api.ErrRange)
	}
}

// P12.1, Offer: the least free number, where several are free.
func TestOfferLeast(t *testing.T) {
	for _, order := range [][]int{{4, 9, 30}, {30, 9, 4}, {9, 30, 4}, {0, 31}, {31, 0}, {31, 30, 1, 0}, {17}} {
		p := full(t)
		was := all(p.g)
		for _, id := range order {
			p.revokes(id, was[id])
		}
		for i, id := range slices.Sorted(slices.Values(order)) {
			p.offers(9, 100+i, 2, i%2 == 0, id)
		}
		p.noOffer(9, 200, 2, api.ErrFull)
	}
}

// P12.1, Accept: numbers, guests and pages outside, ahead of every other error, of grants in each state.
func TestAcceptRange(t *testing.T) {
	p := open(t)
	p.offers(2, 5, 3, true, 0)
	p.offers(4, 5, 3, true, 1)
	p.takes(1, 7, taken(4, 5, 3, true, 7))
	for _, id := range noNumbers() {
		p.noAccept(id, 3, 8, api.ErrRange)
		p.noAccept(id, 3, 7, api.ErrRange)
		p.noAccept(id, 4, 8, api.ErrRange)
	}
	for id := range 4 {
		for _, guest := range noGuests() {
			p.noAccept(id, guest, 8, api.ErrRange)
			p.noAccept(id, guest, 0, api.ErrRange)
		}
		for _, page := range noPages() {
			p.noAccept(id, 3, page, api.ErrRange)
			p.noAccept(id, 9, page, api.ErrRange)
		}
	}
	p.takes(0, 8, taken(2, 5, 3, true, 8))
}

// P12.1, Accept: one that is free, that was never offered or was freed, also at a page that is in use.
func TestAcceptFree(t *testing.T) {
	p := open(t)
	for id := range 32 {
		for guest := 2; guest <= 9; guest++ {
			p.noAccept(id, guest, 0, api.ErrNone)
		}
	}
	p.offers(2, 5, 3, true, 0)
	p.offers(2, 6, 3, true, 1)
	p.takes(1, 7, taken(2, 6, 3, true, 7))
	p.revokes(0, offered(2, 5, 3, true))
	p.noAccept(0, 3, 8, api.ErrNone)
	p.noAccept(0, 3, 7, api.ErrNone)
	p.revokes(1, taken(2, 6, 3, true, 7))
	p.noAccept(1, 3, 7, api.ErrNone)
	p.noAccept(1, 2, 7, api.ErrNone)
}

// P12.1, Accept: one that is made to another one, the owner's own try among them, while it is offered and while it is taken, also at a page that is in use.
func TestAcceptAnothers(t *testing.T) {
	p := open(t)
	p.offers(2, 5, 3, true, 0)
	p.offers(2, 6, 4, true, 1)
	p.takes(1, 7, taken(2, 6, 4, true, 7))
	for guest := 2; guest <= 9; guest++ {
		if guest != 3 {
			p.noAccept(0, guest, 7, api.ErrNone)
			p.noAccept(0, guest, 0, api.ErrNone)
		}
		if guest != 4 {
			p.noAccept(1, guest, 7, api.ErrNone)
			p.noAccept(1, guest, 8, api.ErrNone)
		}
	}
	p.takes(0, 7, taken(2, 5, 3, true, 7))
}

// P12.1, Accept: one that is taken, at the same page, at another one, and at one where that guest has taken another.
func TestAcceptTaken(t *testing.T) {
	p := open(t)
	p.offers(2, 5, 3, false, 0)
	p.offers(2, 6, 3, true, 1)
	p.takes(0, 0, taken(2, 5, 3, false, 0))
	p.takes(1, 9, taken(2, 6, 3, true, 9))
	for _, page := range []int{0, 1, 9, 10, 4095} {
		p.noAccept(0, 3, page, api.ErrState)
		p.noAccept(1, 3, page, api.ErrState)
	}
	p.holds(0, taken(2, 5, 3, false, 0))
	p.holds(1, taken(2, 6, 3, true, 9))
}

// P12.1, Accept: a page at which that guest has taken another one; the grant stays offered.
func TestAcceptBusy(t *testing.T) {
	for _, page := range []int{0, 1, 7, 4095} {
		p := open(t)
		p.offers(2, 5, 3, false, 0)
		p.offers(4, 5, 3, true, 1)
		p.offers(2, 6, 3, true, 2)
		p.takes(1, page, taken(4, 5, 3, true, page))
		p.noAccept(0, 3, page, api.ErrBusy)
		p.noAccept(2, 3, page, api.ErrBusy)
		p.holds(0, offered(2, 5, 3, false))
		p.holds(2, offered(2, 6, 3, true))
		p.takes(0, page^1, taken(2, 5, 3, false, page^1))
		p.noAccept(2, 3, page^1, api.ErrBusy)
		p.takes(2, 2, taken(2, 6, 3, true, 2))
	}
}

// P12.1, Accept: pages that another guest uses, the owner among them, or that are only offered; a grant that is offered is at no page, not at 0 either.
func TestAcceptSamePage(t *testing.T) {
	for _, page := range []int{0, 40, 4095} {
		p := open(t)
		p.offers(2, 5, 3, true, 0)
		p.offers(3, 5, 2, true, 1)
		p.offers(2, 5, 4, false, 2)
		p.offers(4, 6, 3, false, 3)
		p.takes(0, page, taken(2, 5, 3, true, page))
		p.takes(1, page, taken(3, 5, 2, true, page))
		p.takes(2, page, taken(2, 5, 4, false, page))
		p.noAccept(3, 3, page, api.ErrBusy)
		p.at(2, page, 1)
		p.at(3, page, 0)
		p.at(4, page, 2)
	}
}

// P12.1, Accept: each page from 0 to 4,095.
func TestAcceptPages(t *testing.T) {
	g := grant.New()
	g.Offer(2, 5, 3, true)
	for page := range 4096 {
		if x, e := g.Accept(0, 3, page); e != api.OK || x != taken(2, 5, 3, true, page) || g.Get(0) != x || g.At(3, page) != 0 {
			t.Fatal(page, x, e)
		}
		if x, e := g.Leave(0, 3); e != api.OK || x != taken(2, 5, 3, true, page) || g.At(3, page) != -1 {
			t.Fatal(page, x, e)
		}
	}
}

// P12.1, Accept: all 32, in another order than that of their numbers, each by its own guest.
func TestAcceptAll(t *testing.T) {
	p := open(t)
	for id := range 32 {
		p.offers(2+id%2, 50+id, 4+id%6, id%3 == 0, id)
	}
	for i := range 32 {
		id := i * 5 % 32
		p.takes(id, 4095-id, taken(2+id%2, 50+id, 4+id%6, id%3 == 0, 4095-id))
	}
	for id := range 32 {
		p.at(4+id%6, 4095-id, id)
		p.may(4+id%6, 50+id, true, id%3 == 0)
	}
}

// P12.2, Leave: numbers and guests outside, ahead of every other error, of grants in each state.
func TestLeaveRange(t *testing.T) {
	p := open(t)
	p.offers(2, 5, 3, true, 0)
	p.offers(4, 5, 3, true, 1)
	p.takes(1, 7, taken(4, 5, 3, true, 7))
	for _, id := range noNumbers() {
		for guest := 2; guest <= 4; guest++ {
			p.noLeave(id, guest, api.ErrRange)
		}
	}
	for id := range 32 {
		for _, guest := range noGuests() {
			p.noLeave(id, guest, api.ErrRange)
		}
	}
}

// P12.2, Leave: one that is free, or made to another one, the owner's own try among them, taken or offered.
func TestLeaveNone(t *testing.T) {
	p := open(t)
	p.offers(2, 5, 3, true, 0)
	p.offers(2, 6, 4, true, 1)
	p.offers(2, 7, 3, true, 2)
	p.takes(0, 7, taken(2, 5, 3, true, 7))
	p.takes(2, 8, taken(2, 7, 3, true, 8))
	p.revokes(2, taken(2, 7, 3, true, 8))
	for guest := 2; guest <= 9; guest++ {
		if guest != 3 {
			p.noLeave(0, guest, api.ErrNone)
		}
		if guest != 4 {
			p.noLeave(1, guest, api.ErrNone)
		}
		p.noLeave(2, guest, api.ErrNone)
		p.noLeave(31, guest, api.ErrNone)
	}
}

// P12.2, Leave: one that is offered, that was never taken or was left.
func TestLeaveOffered(t *testing.T) {
	p := open(t)
	p.offers(2, 5, 3, true, 0)
	p.noLeave(0, 3, api.ErrState)
	p.takes(0, 7, taken(2, 5, 3, true, 7))
	p.leaves(0, taken(2, 5, 3, true, 7))
	p.noLeave(0, 3, api.ErrState)
	p.holds(0, offered(2, 5, 3, true))
}

// P12.2, Leave: it is offered again, without a page, and may be taken again at any; its page may be used for another one.
func TestLeave(t *testing.T) {
	for _, write := range []bool{false, true} {
		for _, page := range []int{0, 1, 40, 4095} {
			p := open(t)
			p.offers(2, 5, 3, write, 0)
			p.offers(2, 6, 3, !write, 1)
			p.takes(0, page, taken(2, 5, 3, write, page))
			p.leaves(0, taken(2, 5, 3, write, page))
			p.takes(1, page, taken(2, 6, 3, !write, page))
			p.noAccept(0, 3, page, api.ErrBusy)
			p.takes(0, 77, taken(2, 5, 3, write, 77))
			p.leaves(1, taken(2, 6, 3, !write, page))
			p.leaves(0, taken(2, 5, 3, write, 77))
			p.takes(0, page, taken(2, 5, 3, write, page))
		}
	}
}

// P12.2, Revoke: numbers and owners outside, of grants in each state.
func TestRevokeRange(t *testing.T) {
	p := open(t)
	p.offers(2, 5, 3, true, 0)
	p.offers(4, 5, 3, true, 1)
	p.takes(1, 7, taken(4, 5, 3, true, 7))
	for _, id := range noNumbers() {
		for guest := 2; guest <= 4; guest++ {
			p.noRevoke(id, guest, api.ErrRange)
		}
	}
	for id := range 32 {
		for _, owner := range noGuests() {
			p.noRevoke(id, owner, api.ErrRange)
		}
	}
}

// P12.2, Revoke: one that is free, and another one's, its taker's own try among them, while it is offered and while it is taken.
func TestRevokeOwner(t *testing.T) {
	p := open(t)
	p.offers(2, 5, 3, true, 0)
	p.offers(4, 5, 3, true, 1)
	p.offers(3, 6, 2, true, 2)
	p.takes(1, 7, taken(4, 5, 3, true, 7))
	p.revokes(2, offered(3, 6, 2, true))
	for guest := 2; guest <= 9; guest++ {
		if guest != 2 {
			p.noRevoke(0, guest, api.ErrOwner)
		}
		if guest != 4 {
			p.noRevoke(1, guest, api.ErrOwner)
		}
		p.noRevoke(2, guest, api.ErrOwner)
		p.noRevoke(31, guest, api.ErrOwner)
	}
	p.holds(0, offered(2, 5, 3, true))
	p.holds(1, taken(4, 5, 3, true, 7))
}

// P12.2, Revoke: one that is offered, one that is taken, and one that was left, once each; its page may be used for another one.
func TestRevoke(t *testing.T) {
	for _, write := range []bool{false, true} {
		p := open(t)
		p.offers(2, 5, 3, write, 0)
		p.offers(4, 5, 3, !write, 1)
		p.offers(9, 0, 8, write, 2)
		p.offers(2, 9, 3, write, 3)
		p.takes(1, 0, taken(4, 5, 3, !write, 0))
		p.takes(2, 4095, taken(9, 0, 8, write, 4095))
		p.leaves(2, taken(9, 0, 8, write, 4095))
		p.revokes(2, offered(9, 0, 8, write))
		p.revokes(0, offered(2, 5, 3, write))
		p.revokes(1, taken(4, 5, 3, !write, 0))
		p.noRevoke(0, 2, api.ErrOwner)
		p.noRevoke(1, 4, api.ErrOwner)
		p.noRevoke(2, 9, api.ErrOwner)
		p.takes(3, 0, taken(2, 9, 3, write, 0))
	}
}

// P12.2, Gone: a guest that owns some and has some made to it, offered and taken: as they were, by their numbers; the grants among the others stay.
func TestGone(t *testing.T) {
	p := open(t)
	p.offers(4, 1, 5, true, 0)
	p.offers(2, 5, 3, true, 1)
	p.offers(3, 5, 2, false, 2)
	p.offers(5, 1, 4, false, 3)
	p.offers(3, 6, 9, true, 4)
	p.offers(8, 0, 3, false, 5)
	p.offers(2, 7, 9, true, 6)
	p.takes(0, 9, taken(4, 1, 5, true, 9))
	p.takes(2, 4095, taken(3, 5, 2, false, 4095))
	p.takes(5, 0, taken(8, 0, 3, false, 0))
	p.goes(3, offered(2, 5, 3, true), taken(3, 5, 2, false, 4095), offered(3, 6, 9, true), taken(8, 0, 3, false, 0))
	p.goes(3)
	if list := all(p.g); list != ([32]grant.Grant{0: taken(4, 1, 5, true, 9), 3: offered(5, 1, 4, false), 6: offered(2, 7, 9, true)}) {
		t.Fatal(list)
	}
	p.offers(3, 5, 2, true, 1)
	p.goes(2, offered(3, 5, 2, true), offered(2, 7, 9, true))
	p.goes(9)
	p.goes(4, taken(4, 1, 5, true, 9), offered(5, 1, 4, false))
	p.goes(5)
}

// P12.2, Gone: of one that has none, and of what is no guest, with grants in each state.
func TestGoneNone(t *testing.T) {
	p := open(t)
	p.offers(2, 0, 3, true, 0)
	p.offers(2, 1, 3, true, 1)
	p.takes(1, 0, taken(2, 1, 3, true, 0))
	for _, guest := range append(noGuests(), 4, 5, 6, 7, 8, 9) {
		p.goes(guest)
	}
	p = full(t)
	for _, guest := range noGuests() {
		p.goes(guest)
	}
}

// P12.2, Gone: all 32 of one guest's, at once, and all are offered anew then.
func TestGoneAll(t *testing.T) {
	for _, guest := range []int{2, 3} {
		p := open(t)
		var want []grant.Grant
		for id := range 32 {
			p.offers(2, 100-id, 3, id%2 == 0, id)
			want = append(want, offered(2, 100-id, 3, id%2 == 0))
			if id%5 == 0 {
				want[id] = taken(2, 100-id, 3, id%2 == 0, id)
				p.takes(id, id, want[id])
			}
		}
		p.goes(guest, want...)
		for id := range 32 {
			p.offers(5, id, 6, true, id)
		}
	}
}

// P12.2, Gone: guest after guest of a full set, until all are free.
func TestGoneEach(t *testing.T) {
	p := full(t)
	many := 0
	for _, guest := range []int{5, 9, 2, 7, 3, 8, 4, 6} {
		was := all(p.g)
		var want []grant.Grant
		for _, x := range was {
			if x.Owner == guest || x.To == guest {
				want = append(want, x)
			}
		}
		p.goes(guest, want...)
		many += len(want)
	}
	if many != 32 || all(p.g) != ([32]grant.Grant{}) {
		t.Fatal(many, all(p.g))
	}
}

// P12.3, Get: each number, and none.
func TestGet(t *testing.T) {
	p := full(t)
	for id := range 32 {
		owner, to := 2+id%8, 2+(id+1+id/8)%8
		want := offered(owner, id, to, id%2 == 0)
		if id%3 == 0 {
			want = taken(owner, id, to, id%2 == 0, id)
		}
		p.holds(id, want)
	}
	for _, id := range noNumbers() {
		p.holds(id, grant.Grant{})
	}
}

// P12.3, May: for reading and for writing, of an offered grant, of a taken one with and without Write, and behind Leave, Revoke and both guests' Gone.
func TestMay(t *testing.T) {
	for _, write := range []bool{false, true} {
		for i, end := range []func(p *pair){
			func(p *pair) { p.leaves(0, taken(2, 5, 3, write, 9)) },
			func(p *pair) { p.revokes(0, taken(2, 5, 3, write, 9)) },
			func(p *pair) { p.goes(2, taken(2, 5, 3, write, 9)) },
			func(p *pair) { p.goes(3, taken(2, 5, 3, write, 9)) },
		} {
			p := open(t)
			p.offers(2, 5, 3, write, 0)
			p.may(3, 5, false, false)
			p.takes(0, 9, taken(2, 5, 3, write, 9))
			p.may(3, 5, true, write)
			// The owner, other guests, other frames, and the page in place of the frame.
			for _, guest := range append(noGuests(), 2, 4, 5, 9) {
				p.may(guest, 5, false, false)
			}
			for _, frame := range append(far(), 0, 1, 4, 6, 9, 5+256, 5+1<<32) {
				p.may(3, frame, false, false)
			}
			end(p)
			p.may(3, 5, false, false)
			if i == 0 {
				p.takes(0, 1, taken(2, 5, 3, write, 1))
				p.may(3, 5, true, write)
			}
		}
	}
}

// P12.3, May: two taken grants of one frame by two owners, of which one may be written, in either order, and each of them gone.
func TestMayTwo(t *testing.T) {
	for _, first := range []bool{false, true} {
		p := open(t)
		p.offers(2, 5, 3, first, 0)
		p.offers(4, 5, 3, !first, 1)
		p.takes(0, 1, taken(2, 5, 3, first, 1))
		p.may(3, 5, true, first)
		p.takes(1, 2, taken(4, 5, 3, !first, 2))
		p.may(3, 5, true, true)
		p.leaves(0, taken(2, 5, 3, first, 1))
		p.may(3, 5, true, !first)
		p.takes(0, 8, taken(2, 5, 3, first, 8))
		p.revokes(1, taken(4, 5, 3, !first, 2))
		p.may(3, 5, true, first)
		p.goes(2, taken(2, 5, 3, first, 8))
		p.may(3, 5, false, false)
	}
}

// P12.3, May: frame 0 and a great one; free grants, whose parts are noughts, give nothing.
func TestMayEdges(t *testing.T) {
	for _, frame := range []int{0, 1023, math.MaxInt} {
		p := open(t)
		p.offers(9, frame, 2, true, 0)
		p.takes(0, 0, taken(9, frame, 2, true, 0))
		p.may(2, frame, true, true)
		p.may(9, frame, false, false)
		p.may(0, 0, false, false)
		p.may(0, frame, false, false)
		p.may(2, frame^1, false, false)
	}
}

// P12.3, At: a page where one is taken, where none is, of an offered one, and behind Leave, Revoke and both guests' Gone.
func TestAt(t *testing.T) {
	for _, page := range []int{0, 1, 40, 4095} {
		for _, end := range []func(p *pair){
			func(p *pair) { p.leaves(1, taken(2, 5, 3, true, page)) },
			func(p *pair) { p.revokes(1, taken(2, 5, 3, true, page)) },
			func(p *pair) { p.goes(2, taken(2, 5, 3, true, page)) },
			func(p *pair) { p.goes(3, taken(2, 5, 3, true, page)) },
		} {
			p := open(t)
			p.offers(8, 5, 9, true, 0)
			p.offers(2, 5, 3, true, 1)
			p.at(3, 0, -1)
			p.at(3, page, -1)
			p.takes(1, page, taken(2, 5, 3, true, page))
			p.at(3, page, 1)
			for _, guest := range append(noGuests(), 2, 4, 8, 9) {
				p.at(guest, page, -1)
			}
			for _, other := range append(noPages(), page^1, page^2, page+256, page+4096, page+1<<32) {
				p.at(3, other, -1)
			}
			end(p)
			p.at(3, page, -1)
			p.at(3, 0, -1)
		}
	}
}

// P12.3: a call that answers an error, whichever it is, changes no grant.
func TestErrors(t *testing.T) {
	g := grant.New()
	g.Offer(2, 5, 3, true)
	g.Offer(4, 5, 3, false)
	g.Offer(4, 6, 3, true)
	g.Accept(1, 3, 7)
	offer := func(owner, frame, to int) api.Errno { _, e := g.Offer(owner, frame, to, true); return e }
	accept := func(id, to, page int) api.Errno { _, e := g.Accept(id, to, page); return e }
	leave := func(id, to int) api.Errno { _, e := g.Leave(id, to); return e }
	revoke := func(id, owner int) api.Errno { _, e := g.Revoke(id, owner); return e }
	for _, full := range []bool{false, true} {
		for id := 3; full && id < 32; id++ {
			told(t, "Offer", offer(5, id, 6), api.OK)
		}
		before := all(g)
		for i, c := range []struct{ got, want api.Errno }{
			{offer(1, 5, 3), api.ErrRange}, {offer(2, 5, 10), api.ErrRange}, {offer(2, 5, 2), api.ErrRange}, {offer(2, -1, 3), api.ErrRange},
			{offer(2, 5, 3), api.ErrThere}, {offer(4, 5, 3), api.ErrThere},
			{accept(32, 3, 8), api.ErrRange}, {accept(0, 1, 8), api.ErrRange}, {accept(0, 3, 4096), api.ErrRange},
			{accept(3, 3, 8), api.ErrNone}, {accept(0, 2, 8), api.ErrNone}, {accept(1, 3, 8), api.ErrState}, {accept(0, 3, 7), api.ErrBusy},
			{leave(-1, 3), api.ErrRange}, {leave(1, 10), api.ErrRange}, {leave(3, 3), api.ErrNone}, {leave(1, 4), api.ErrNone}, {leave(0, 3), api.ErrState},
			{revoke(32, 2), api.ErrRange}, {revoke(0, 1), api.ErrRange}, {revoke(3, 2), api.ErrOwner}, {revoke(1, 3), api.ErrOwner},
		} {
			if c.got != c.want {
				t.Fatal(i, c.got, c.want)
			}
		}
		if full {
			told(t, "Offer", offer(8, 0, 9), api.ErrFull)
		}
		if all(g) != before || g.At(3, 7) != 1 || g.At(3, 8) != -1 || g.At(3, 0) != -1 || !g.May(3, 5, false) || g.May(3, 5, true) || g.May(3, 6, false) {
			t.Fatal(all(g))
		}
	}
}

// P12.3: what Gone answers is new memory: changed or appended to, it changes nothing of the grants, nor another answer.
func TestAnswers(t *testing.T) {
	p := open(t)
	for id := range 8 {
		p.offers(2+id%2, id, 5, true, id)
	}
	p.takes(6, 0, taken(2, 6, 5, true, 0))
	one := p.gone(2)
	kept := slices.Clone(one)
	two := p.gone(3)
	spoil := func(list []grant.Grant) {
		list = list[:cap(list)]
		for i := range list {
			list[i] = taken(7, 7, 8, true, i)
		}
	}
	spoil(two)
	spoil(append(two, offered(2, 2, 3, true)))
	p.same()
	if !slices.Equal(one, kept) {
		t.Fatal(one)
	}
	p.offers(4, 9, 5, true, 0)
	p.takes(0, 3, taken(4, 9, 5, true, 3))
	spoil(append(one, offered(2, 2, 3, true)))
	spoil(one)
	spoil(append(p.gone(7), offered(7, 7, 8, true)))
	p.same()
	p.holds(0, taken(4, 9, 5, true, 3))
	p.goes(5, taken(4, 9, 5, true, 3))
}

// P12.3: two sets of grants, of which neither changes the other.
func TestTwoSets(t *testing.T) {
	a, b := full(t), open(t)
	b.holds(0, grant.Grant{})
	b.offers(2, 5, 3, true, 0)
	b.takes(0, 0, taken(2, 5, 3, true, 0))
	a.same()
	a.gone(2)
	a.gone(3)
	b.holds(0, taken(2, 5, 3, true, 0))
	b.at(3, 0, 0)
	b.may(3, 5, true, true)
	b.revokes(0, taken(2, 5, 3, true, 0))
	a.same()
}

// P1: no call panics, at all arguments, of an empty and of a full set.
func TestAllArguments(t *testing.T) {
	numbers := append([]int{0, 1, 2, 9, 10, 31, 32, 4095}, far()...)
	for _, p := range []*pair{open(t), full(t)} {
		for _, a := range numbers {
			for _, b := range numbers {
				p.offer(a, b, 3, true)
				p.offer(3, a, b, false)
				p.accept(a, b, 5)
				p.accept(a, 3, b)
				p.accept(3, a, b)
				p.leave(a, b)
				p.revoke(a, b)
				p.sameMay(a, b)
				p.at(a, b, p.m.at(a, b))
			}
			p.gone(a)
			p.holds(a, p.m[a])
		}
	}
}

// row: numbers that look mixed, the same for the same seed.
func row(seed uint32) func(n int) int {
	return func(n int) int {
		seed = seed*1664525 + 1013904223
		return int(seed>>8) % n
	}
}

// or: a number of these, or at times one of the others.
func or(next func(n int) int, from, many int, others []int) int {
	if next(25) == 0 {
		return others[next(len(others))]
	}
	return from + next(many)
}

// step does one mixed call.
func (p *pair) step(next func(n int) int, guests int) {
	p.t.Helper()
	id := or(next, 0, 32, noNumbers())
	one := or(next, 2, guests, noGuests())
	other := or(next, 2, guests, noGuests())
	page := or(next, 0, 6, append(noPages(), 4095))
	frame := or(next, 0, 5, far())
	// Mostly the guests that a grant is between, so that calls are done.
	if x := p.m[id]; x.State != grant.SFree && next(4) > 0 {
		one, other = x.Owner, x.To
	}
	switch next(20) {
	case 0, 1, 2, 3, 4, 5, 6, 7:
		p.offer(or(next, 2, guests, noGuests()), frame, or(next, 2, guests, noGuests()), next(2) == 0)
	case 8, 9, 10, 11, 12, 13:
		p.accept(id, other, page)
	case 14, 15, 16:
		p.leave(id, other)
	case 17, 18:
		p.revoke(id, one)
	case 19:
		if next(5) == 0 {
			p.gone(one)
		}
	}
}

// P12.1 to P12.3: rows of mixed calls against the model, with few and with all guests.
func TestRows(t *testing.T) {
	for seed := range 14 {
		next, p := row(uint32(seed)), open(t)
		for range 400 {
			p.step(next, 2+seed%7)
			p.same()
		}
	}
}
