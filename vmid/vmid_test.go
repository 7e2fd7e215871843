package vmid_test

import (
	"math"
	"slices"
	"testing"

	"warder/api"
	"warder/vmid"
)

// takes takes a number, and holds it against the one that it should be.
func (p *pair) takes(want int) {
	p.t.Helper()
	if n, e := p.take(); n != want || e != api.OK {
		p.t.Fatalf("Take: %d %v, not %d", n, e, want)
	}
	p.holds(want, vmid.STaken)
}

// noTake holds that nothing is taken, with this error.
func (p *pair) noTake(want api.Errno) {
	p.t.Helper()
	if n, e := p.take(); n != 0 || e != want {
		p.t.Fatalf("Take: %d %v, not 0 and %v", n, e, want)
	}
	p.same()
}

// gives gives numbers back, one after the other.
func (p *pair) gives(numbers ...int) {
	p.t.Helper()
	for _, n := range numbers {
		if e := p.give(n); e != api.OK {
			p.t.Fatalf("Give(%d): %v", n, e)
		}
		p.holds(n, vmid.SStale)
	}
}

// noGive holds that nothing is given back, with this error.
func (p *pair) noGive(n int, want api.Errno) {
	p.t.Helper()
	if e := p.give(n); e != want {
		p.t.Fatalf("Give(%d): %v, not %v", n, e, want)
	}
	p.same()
}

// drops makes all stale numbers free, and holds how many against this.
func (p *pair) drops(want int) {
	p.t.Helper()
	if many := p.dropped(); many != want {
		p.t.Fatalf("Dropped: %d, not %d", many, want)
	}
	p.same()
}

// holds holds a number's state against what it should be.
func (p *pair) holds(n, want int) {
	p.t.Helper()
	if got := p.p.State(n); got != want {
		p.t.Fatalf("State(%d): %d, not %d", n, got, want)
	}
	p.same()
}

// lists holds which numbers are taken.
func (p *pair) lists(want ...int) {
	p.t.Helper()
	if got := p.p.Taken(); !slices.Equal(got, want) {
		p.t.Fatalf("Taken: %v, not %v", got, want)
	}
}

// full: a pair of so many numbers, all of them taken.
func full(t *testing.T, most int) *pair {
	t.Helper()
	p := open(t, most)
	for n := range most {
		p.takes(n + 1)
	}
	return p
}

// mixed: a pair of 9 numbers: 1, 4 and 7 are free, 2, 5 and 8 are taken, and 3, 6 and 9 are stale.
func mixed(t *testing.T) *pair {
	t.Helper()
	p := full(t, 9)
	p.gives(1, 4, 7)
	p.drops(3)
	p.gives(3, 6, 9)
	p.lists(2, 5, 8)
	return p
}

// sizes: how many numbers a pool may have.
func sizes() []int { return []int{1, 2, 3, 7, 8, 9, 63, 64, 65, 127, 128, 200, 254, 255} }

// far: numbers below 0, and great ones, such as have the lowest bits of good ones among them.
func far() []int {
	return []int{-1, -2, -3, -8, -9, -10, -254, -255, -256, -257, math.MinInt32, math.MinInt32 + 2, math.MinInt, math.MinInt + 1, math.MinInt + 2, math.MinInt + 3, math.MinInt + 255,
		256, 257, 258, 259, 511, 512, 513, 1024, 4096, 65536, 65537, 65538, 1 << 24, 1<<24 + 2, math.MaxInt32, 1 << 31, 1 << 32, 1<<32 + 1, 1<<32 + 2, 1<<32 + 3, 1<<32 + 255, 1<<56 + 2, 1 << 62, 1<<62 + 3,
		math.MaxInt - 254, math.MaxInt - 1, math.MaxInt}
}

// noNumbers: numbers that a pool of so many hasn't.
func noNumbers(most int) []int {
	return append([]int{0, most + 1, most + 2, most + 256, -most}, far()...)
}

// The states' numbers.
func TestStates(t *testing.T) {
	if vmid.SFree != 0 || vmid.STaken != 1 || vmid.SStale != 2 {
		t.Fatal(vmid.SFree, vmid.STaken, vmid.SStale)
	}
}

// The chapter's example.
func TestExample(t *testing.T) {
	p := open(t, 1)
	p.takes(1)
	p.gives(1)
	p.noTake(api.ErrBusy)
	p.drops(1)
	p.takes(1)
}

// P13.1, New: of no numbers, of too many, and of what is far out.
func TestNewRange(t *testing.T) {
	for _, most := range append(far(), 0) {
		if p, e := vmid.New(most); p != nil || e != api.ErrRange {
			t.Fatal(most, p, e)
		}
	}
}

// P13.1, New: of each good size all numbers are free, and there are no others.
func TestNew(t *testing.T) {
	for most := 1; most <= 255; most++ {
		p := open(t, most)
		for n := 1; n <= most; n++ {
			if s := p.p.State(n); s != vmid.SFree {
				t.Fatal(most, n, s)
			}
		}
		p.holds(0, -1)
		p.holds(most+1, -1)
		p.lists()
		p.drops(0)
		p.noGive(1, api.ErrNone)
		p.noGive(most, api.ErrNone)
	}
}

// P13.1, Take: all numbers, from 1 on in order, and one more.
func TestTake(t *testing.T) {
	for _, most := range sizes() {
		p := open(t, most)
		for n := 1; n <= most; n++ {
			p.takes(n)
			if n < most {
				p.holds(n+1, vmid.SFree)
			}
		}
		p.noTake(api.ErrFull)
		p.noTake(api.ErrFull)
		p.gives(most)
		p.noTake(api.ErrBusy)
	}
}

// P13.1, Take: the least free number, where several are free, in whichever order they came to be that.
func TestTakeLeast(t *testing.T) {
	for _, order := range [][]int{{4, 9, 30}, {30, 9, 4}, {9, 30, 4}, {1, 40}, {40, 1}, {40, 39, 2, 1}, {17}} {
		for _, each := range []bool{false, true} {
			p := full(t, 40)
			for _, n := range order {
				p.gives(n)
				if each {
					p.drops(1)
				}
			}
			p.dropped()
			for _, n := range slices.Sorted(slices.Values(order)) {
				p.takes(n)
			}
			p.noTake(api.ErrFull)
		}
	}
}

// P13.1, Take: a number that comes to be free between two calls is taken ahead of greater ones.
func TestTakeBetween(t *testing.T) {
	p := open(t, 5)
	p.takes(1)
	p.takes(2)
	p.gives(1)
	p.takes(3)
	p.drops(1)
	p.takes(1)
	p.takes(4)
	p.gives(2)
	p.gives(4)
	p.drops(2)
	p.takes(2)
	p.takes(4)
	p.takes(5)
	p.noTake(api.ErrFull)
}

// P13.1, Take: none is free, and one is stale, whichever it is, or all are.
func TestTakeBusy(t *testing.T) {
	for _, most := range sizes() {
		for _, n := range []int{1, (most + 1) / 2, most} {
			p := full(t, most)
			p.gives(n)
			p.noTake(api.ErrBusy)
			p.noTake(api.ErrBusy)
			p.holds(n, vmid.SStale)
			p.drops(1)
			p.takes(n)
			p.noTake(api.ErrFull)
		}
		p := full(t, most)
		for n := range most {
			p.gives(most - n)
			p.noTake(api.ErrBusy)
		}
		p.lists()
		p.drops(most)
		for n := range most {
			p.takes(n + 1)
		}
	}
}

// P13.1, Take: a stale number isn't taken ahead of a drop, also while others are free.
func TestTakeStale(t *testing.T) {
	p := open(t, 4)
	p.takes(1)
	p.gives(1)
	p.takes(2)
	p.gives(2)
	p.takes(3)
	p.takes(4)
	p.noTake(api.ErrBusy)
	p.gives(4)
	p.noTake(api.ErrBusy)
	p.drops(3)
	p.takes(1)
	p.takes(2)
	p.takes(4)
	p.noTake(api.ErrFull)
	q := mixed(t)
	q.takes(1)
	q.takes(4)
	q.takes(7)
	q.noTake(api.ErrBusy)
	q.drops(3)
	q.takes(3)
	q.takes(6)
	q.takes(9)
	q.noTake(api.ErrFull)
}

// P13.1, Give: numbers that there aren't, with numbers in each state, with all free and with all taken.
func TestGiveRange(t *testing.T) {
	p := mixed(t)
	for _, n := range noNumbers(9) {
		p.noGive(n, api.ErrRange)
	}
	for _, most := range sizes() {
		a, b := open(t, most), full(t, most)
		for _, n := range noNumbers(most) {
			a.noGive(n, api.ErrRange)
			b.noGive(n, api.ErrRange)
		}
	}
}

// P13.1, Give: one that is free: never taken, or free again by a drop; and one that is stale.
func TestGiveNone(t *testing.T) {
	for _, most := range sizes() {
		p := open(t, most)
		for n := 1; n <= most; n++ {
			p.noGive(n, api.ErrNone)
		}
		p.takes(1)
		p.gives(1)
		p.noGive(1, api.ErrNone)
		p.noGive(1, api.ErrNone)
		p.drops(1)
		p.noGive(1, api.ErrNone)
		p.takes(1)
		p.gives(1)
	}
	p := mixed(t)
	for _, n := range []int{1, 4, 7, 3, 6, 9} {
		p.noGive(n, api.ErrNone)
	}
}

// P13.1, Give: each taken number, in two orders, and twice.
func TestGive(t *testing.T) {
	for _, most := range sizes() {
		p, q := full(t, most), full(t, most)
		for i := range most {
			p.gives(i + 1)
			p.noGive(i+1, api.ErrNone)
			q.gives(most - i)
			q.noGive(most-i, api.ErrNone)
		}
		p.lists()
		q.lists()
	}
	p := mixed(t)
	p.gives(5, 8, 2)
	p.drops(6)
}

// P13.1, Dropped: where none is stale, of a new pool and of a full one; where one is, some are, and all are; and twice.
func TestDropped(t *testing.T) {
	for _, most := range sizes() {
		p := open(t, most)
		p.drops(0)
		p = full(t, most)
		p.drops(0)
		p.gives(most)
		p.drops(1)
		p.drops(0)
		p.takes(most)
		for n := range most {
			p.gives(n + 1)
		}
		p.drops(most)
		p.drops(0)
		p.holds(1, vmid.SFree)
		p.holds(most, vmid.SFree)
	}
}

// P13.1, Dropped: taken ones stay taken, and free ones free.
func TestDroppedOthers(t *testing.T) {
	p := mixed(t)
	p.drops(3)
	for n := 1; n <= 9; n++ {
		p.holds(n, []int{vmid.SFree, vmid.STaken, vmid.SFree}[(n-1)%3])
	}
	p.lists(2, 5, 8)
	p.drops(0)
	p.lists(2, 5, 8)
	for _, n := range []int{1, 3, 4, 6, 7, 9} {
		p.takes(n)
	}
	p.noTake(api.ErrFull)
}

// P13.1: a number goes from free to taken to stale to free, in that order alone, again and again.
func TestOrder(t *testing.T) {
	for _, most := range sizes() {
		p := full(t, most)
		for i := range 4 {
			n := 1 + i*(most-1)/3
			p.holds(n, vmid.STaken)
			p.drops(0)
			p.noTake(api.ErrFull)
			p.holds(n, vmid.STaken)
			p.gives(n)
			p.noTake(api.ErrBusy)
			p.noGive(n, api.ErrNone)
			p.holds(n, vmid.SStale)
			p.drops(1)
			p.noGive(n, api.ErrNone)
			p.drops(0)
			p.holds(n, vmid.SFree)
			p.takes(n)
		}
	}
}

// P13.2, State: each number in each of the three states, and none.
func TestState(t *testing.T) {
	p := mixed(t)
	for n := 1; n <= 9; n++ {
		p.holds(n, (n-1)%3)
	}
	for _, n := range noNumbers(9) {
		p.holds(n, -1)
	}
	for _, most := range sizes() {
		p := open(t, most)
		for n := 1; n <= most; n++ {
			p.holds(n, 0)
			p.takes(n)
			p.holds(n, 1)
			p.gives(n)
			p.holds(n, 2)
		}
		p.drops(most)
		for n := 1; n <= most; n++ {
			p.holds(n, 0)
		}
		for _, n := range noNumbers(most) {
			p.holds(n, -1)
		}
	}
}

// P13.2, Taken: none, some and all, rising, behind Give and Dropped.
func TestTaken(t *testing.T) {
	p := open(t, 6)
	p.lists()
	p.takes(1)
	p.lists(1)
	for n := 2; n <= 6; n++ {
		p.takes(n)
	}
	p.lists(1, 2, 3, 4, 5, 6)
	p.gives(2)
	p.gives(5)
	p.lists(1, 3, 4, 6)
	p.drops(2)
	p.lists(1, 3, 4, 6)
	p.gives(1)
	p.takes(2)
	p.lists(2, 3, 4, 6)
	p.drops(1)
	p.takes(1)
	p.lists(1, 2, 3, 4, 6)
	p.gives(6, 4, 1, 3, 2)
	p.lists()
	p.drops(5)
	p.lists()
	q := full(t, 255)
	if list := q.p.Taken(); len(list) != 255 || list[0] != 1 || list[254] != 255 || !slices.IsSorted(list) {
		t.Fatal(list)
	}
}

// P13.2: a call that answers an error, whichever it is, changes no number's state.
func TestErrors(t *testing.T) {
	for _, most := range []int{3, 9, 255} {
		p := full(t, most)
		p.gives(2)
		for _, wrong := range []int{0, -1, most + 1, 256, math.MinInt, math.MaxInt, 1<<32 + 1, 1<<32 + 3} {
			before := all(p.p)
			if e := p.p.Give(wrong); e != api.ErrRange || all(p.p) != before {
				t.Fatal(most, wrong, e, all(p.p))
			}
		}
		before := all(p.p)
		if e := p.p.Give(2); e != api.ErrNone || all(p.p) != before {
			t.Fatal(most, e, all(p.p))
		}
		if n, e := p.p.Take(); n != 0 || e != api.ErrBusy || all(p.p) != before {
			t.Fatal(most, n, e, all(p.p))
		}
		p.drops(1)
		before = all(p.p)
		if e := p.p.Give(2); e != api.ErrNone || all(p.p) != before {
			t.Fatal(most, e, all(p.p))
		}
		p.takes(2)
		before = all(p.p)
		if n, e := p.p.Take(); n != 0 || e != api.ErrFull || all(p.p) != before {
			t.Fatal(most, n, e, all(p.p))
		}
		p.same()
	}
}

// P13.2: what Taken answers is new memory: changed or appended to, it changes nothing of the pool, nor another answer.
func TestAnswers(t *testing.T) {
	spoil := func(list []int) {
		list = list[:cap(list)]
		for i := range list {
			list[i] = 77
		}
	}
	for _, most := range []int{1, 2, 9, 255} {
		p := full(t, most)
		one := p.p.Taken()
		kept := slices.Clone(one)
		two := p.p.Taken()
		spoil(append(two, 5))
		spoil(two)
		p.same()
		if !slices.Equal(one, kept) {
			t.Fatal(one)
		}
		p.gives(1)
		if !slices.Equal(one, kept) {
			t.Fatal(one)
		}
		spoil(append(p.p.Taken(), 5))
		spoil(append(one, 5))
		spoil(one)
		p.same()
		p.drops(1)
		p.takes(1)
		p.same()
	}
	p := open(t, 3)
	spoil(append(p.p.Taken(), 5))
	p.same()
	p.takes(1)
}

// P13.2: two pools, of which neither changes the other.
func TestTwoPools(t *testing.T) {
	a, b := open(t, 9), open(t, 9)
	a.takes(1)
	b.same()
	b.lists()
	b.takes(1)
	b.takes(2)
	a.same()
	a.gives(1)
	b.holds(1, vmid.STaken)
	b.drops(0)
	a.holds(1, vmid.SStale)
	b.gives(1)
	a.drops(1)
	b.holds(1, vmid.SStale)
	a.takes(1)
	b.same()
	b.lists(2)
	a.lists(1)
}

// P1: no call panics, at all arguments, of an empty, a full and a mixed pool.
func TestAllArguments(t *testing.T) {
	numbers := append([]int{0, 1, 2, 3, 8, 9, 10, 254, 255}, far()...)
	for _, p := range []*pair{open(t, 1), open(t, 255), full(t, 1), full(t, 255), mixed(t)} {
		for _, n := range numbers {
			vmid.New(n)
			p.holds(n, p.m.state(n))
			p.give(n)
			p.same()
			p.take()
			p.holds(n, p.m.state(n))
			p.dropped()
			p.same()
		}
	}
}

// row: numbers that look mixed, the same for the same seed.
func row(seed uint32) func(n int) int {
	return func(n int) int {
		seed = seed*1664525 + 1013904223
		return int(seed>>8) % n
	}
}

// step does one mixed call; the more of them are takes, the fuller the pool is.
func (p *pair) step(next func(n int) int, takes int) {
	p.t.Helper()
	switch what := next(20); {
	case what < takes:
		p.take()
	case what == 19:
		p.dropped()
	case next(15) == 0:
		others := noNumbers(p.m.most)
		p.give(others[next(len(others))])
	default:
		p.give(1 + next(p.m.most))
	}
}

// P13.1 and P13.2: rows of mixed calls against the model, of few numbers and of many.
func TestRows(t *testing.T) {
	for i, most := range sizes() {
		for _, takes := range []int{8, 11, 14, 16} {
			next, p := row(uint32(i*100+takes)), open(t, most)
			for range 150 {
				p.step(next, takes)
				p.same()
			}
		}
	}
}
