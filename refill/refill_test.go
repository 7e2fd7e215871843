package refill_test

import (
	"math"
	"slices"
	"testing"

	"warder/api"
	"warder/refill"
)

// numbers: times and amounts at the ends that the chapter names and at those of narrower kinds, and those next to them.
func numbers() []uint64 {
	return []uint64{0, 1, 2, 3, 255, 256, math.MaxInt32, 1 << 31, math.MaxUint32, 1 << 32, 1<<53 + 1, last/2 - 1, last / 2, last/2 + 1,
		last - 2, last - 1, last, last + 1, last + 2, math.MaxInt64, 1 << 63, 1<<63 + 1, 1<<63 + last, most - last, most - last + 1, most - 1, most}
}

// good: those of the numbers that a time may be.
func good() []uint64 {
	return slices.DeleteFunc(numbers(), func(n uint64) bool { return n > last })
}

// comes: a refill of an amount at a time.
func comes(at, amount uint64) refill.Refill { return refill.Refill{At: at, Amount: amount} }

// pushes pushes refills for which there is nothing wrong.
func (p *pair) pushes(refills ...refill.Refill) {
	p.t.Helper()
	for _, r := range refills {
		if e := p.push(r.At, r.Amount); e != api.OK {
			p.t.Fatalf("Push(%d, %d): %v", r.At, r.Amount, e)
		}
	}
}

// noPush holds that a refill isn't pushed, with this error, and that the row stays as it was.
func (p *pair) noPush(at, amount uint64, want api.Errno) {
	p.t.Helper()
	before := p.q.List()
	if e := p.push(at, amount); e != want {
		p.t.Fatalf("Push(%d, %d): %v, not %v", at, amount, e, want)
	}
	p.lists(before...)
}

// takes holds what is due at a time, which is gone.
func (p *pair) takes(now, want uint64) {
	p.t.Helper()
	if amount := p.take(now); amount != want {
		p.t.Fatalf("Take(%d): %d, not %d", now, amount, want)
	}
	if amount := p.take(now); amount != 0 {
		p.t.Fatalf("Take(%d) once more: %d", now, amount)
	}
}

// lists holds all refills, and what the row tells of them.
func (p *pair) lists(want ...refill.Refill) {
	p.t.Helper()
	if list := p.q.List(); !slices.Equal(list, want) {
		p.t.Fatalf("List: %v, not %v", list, want)
	}
	sum := uint64(0)
	for _, r := range want {
		sum += r.Amount
	}
	if total := p.q.Total(); total != sum {
		p.t.Fatalf("Total: %d, not %d", total, sum)
	}
	if len(want) > 0 {
		if at, ok := p.q.Next(); at != want[0].At || !ok {
			p.t.Fatalf("Next: %d %v, not %d", at, ok, want[0].At)
		}
	}
	p.same()
}

// none holds that there are no refills, and that there is nothing to take.
func (p *pair) none() {
	p.t.Helper()
	if at, ok := p.q.Next(); at != 0 || ok {
		p.t.Fatalf("Next: %d %v", at, ok)
	}
	if sum, list := p.q.Total(), p.q.List(); sum != 0 || len(list) != 0 {
		p.t.Fatalf("Total %d, List %v", sum, list)
	}
	for _, now := range numbers() {
		if amount := p.q.Take(now); amount != 0 {
			p.t.Fatalf("Take(%d): %d", now, amount)
		}
	}
	p.same()
}

// fill: a pair of that room, with so many refills: of 1 at 10, of 2 at 20, of 3 at 30.
func fill(t *testing.T, room, many int) *pair {
	t.Helper()
	p := open(t, room)
	for i := range uint64(many) {
		p.pushes(comes(10*(i+1), i+1))
	}
	if n := len(p.q.List()); n != many {
		t.Fatalf("%d refills, not %d", n, many)
	}
	return p
}

// The chapter's example.
func TestExample(t *testing.T) {
	p := open(t, 1)
	p.pushes(comes(5, 2), comes(9, 3))
	p.lists(comes(9, 5))
	p.takes(8, 0)
	p.takes(9, 5)
	p.none()
}

// P16.1, New: an empty row of each room, of which nothing can be asked or taken.
func TestNew(t *testing.T) {
	for room := 1; room <= 16; room++ {
		p := open(t, room)
		p.none()
		p.clear()
		p.none()
	}
}

// P16.1, New: rooms out of bounds, such as have the lowest bits of good ones among them.
func TestNewRange(t *testing.T) {
	for _, room := range []int{0, 17, -1, math.MinInt, math.MaxInt, 18, 32, 33, 255, 256, 257, 272, 1 << 16, 1<<16 + 1, 1 << 31, 1 << 32, 1<<32 + 1, 1<<32 + 16, 1<<62 + 8,
		-2, -15, -16, -17, -255, -256, math.MinInt32, math.MinInt32 + 1, -1 << 32, -1<<32 + 1, math.MinInt + 1, math.MinInt + 16, math.MaxInt - 1} {
		if q, e := refill.New(room); q != nil || e != api.ErrRange {
			t.Errorf("New(%d): %v %v", room, q, e)
		}
	}
}

// P16.1, New: two rows that know nothing of each other.
func TestTwoRows(t *testing.T) {
	a, b := open(t, 2), open(t, 3)
	a.pushes(comes(40, last))
	b.none()
	b.pushes(comes(3, last-1), comes(9, 1))
	a.lists(comes(40, last))
	a.takes(40, last)
	a.none()
	b.lists(comes(3, last-1), comes(9, 1))
	a.pushes(comes(1, 4), comes(2, 5), comes(3, 6))
	b.clear()
	a.lists(comes(1, 4), comes(3, 11))
	b.pushes(comes(1, 7), comes(2, 7), comes(3, 7))
	c := open(t, 2)
	c.none()
	a.lists(comes(1, 4), comes(3, 11))
	b.lists(comes(1, 7), comes(2, 7), comes(3, 7))
}

// P16.1, Push: every time and every amount at the ends, into an empty row of each room.
func TestPush(t *testing.T) {
	for room := 1; room <= 16; room++ {
		for _, at := range numbers() {
			for _, amount := range numbers() {
				p := open(t, room)
				if amount == 0 || amount > last || at > last {
					p.noPush(at, amount, api.ErrRange)
					p.none()
					continue
				}
				p.pushes(comes(at, amount))
				p.lists(comes(at, amount))
				p.takes(at, amount)
				p.none()
			}
		}
	}
}

// P16.1, Push: every time and every amount at the ends, behind others.
func TestPushBehind(t *testing.T) {
	for _, room := range []int{1, 2, 3, 16} {
		for _, elder := range good() {
			for _, at := range numbers() {
				for _, amount := range numbers() {
					p := open(t, room)
					p.pushes(comes(0, 1), comes(elder, 2))
					e := p.push(at, amount)
					if wrong := amount == 0 || amount > last || at > last || at < elder; wrong != (e == api.ErrRange) {
						t.Fatal(room, elder, at, amount, e)
					}
					if amount > last-3 && amount <= last && at <= last && at >= elder && e != api.ErrMany {
						t.Fatal(room, elder, at, amount, e)
					}
				}
			}
		}
	}
}

// P16.1, Push: of a time one less than, the same as and one more than the last refill's.
func TestPushInOrder(t *testing.T) {
	for _, at := range []uint64{1, 2, 20, 256, 1 << 31, 1 << 32, last / 2, last - 1, last} {
		p := open(t, 3)
		p.pushes(comes(at, 5))
		p.noPush(at-1, 3, api.ErrRange)
		p.noPush(0, 3, api.ErrRange)
		p.pushes(comes(at, 3))
		p.lists(comes(at, 8))
		p.noPush(at-1, 1, api.ErrRange)
		if at == last {
			p.noPush(at+1, 1, api.ErrRange)
			continue
		}
		p.pushes(comes(at+1, 1))
		p.lists(comes(at, 8), comes(at+1, 1))
		p.noPush(at, 1, api.ErrRange)
		p.pushes(comes(at+1, 4))
		p.lists(comes(at, 8), comes(at+1, 5))
	}
}

// P16.1, Push: only the last refill's time bounds the next one's, whatever is ahead of it; full rows likewise.
func TestPushEarlier(t *testing.T) {
	for room := 1; room <= 16; room++ {
		for many := 1; many <= room; many++ {
			p := fill(t, room, many)
			end := uint64(10 * many)
			for at := range end {
				p.noPush(at, 1, api.ErrRange)
				p.noPush(at, last, api.ErrRange)
				p.noPush(at, 0, api.ErrRange)
			}
			p.pushes(comes(end, 1))
			if n := len(p.q.List()); n != many {
				t.Fatal(room, many, n)
			}
		}
	}
}

// P16.1, Push: of the time 0, behind a refill of the time 0 and into an empty row.
func TestPushNoughts(t *testing.T) {
	for room := 1; room <= 16; room++ {
		p := open(t, room)
		for i := range uint64(20) {
			p.pushes(comes(0, 7))
			p.lists(comes(0, 7*(i+1)))
		}
		p.takes(0, 140)
		p.none()
	}
}

// P16.1, Push: of one time, between others: they stay, and it is one refill of all the amounts.
func TestPushSame(t *testing.T) {
	p := open(t, 16)
	p.pushes(comes(1, 1), comes(5, 2), comes(5, 30), comes(5, 400))
	p.pushes(comes(6, 5), comes(6, 60), comes(9, 7))
	p.lists(comes(1, 1), comes(5, 432), comes(6, 65), comes(9, 7))
	p.takes(5, 433)
	p.lists(comes(6, 65), comes(9, 7))
}

// P16.1, Push: amounts that are LastClock together, and one more than that.
func TestPushMany(t *testing.T) {
	for _, room := range []int{1, 2, 3, 16} {
		for _, first := range []uint64{1, 2, last / 2, last - 2, last - 1} {
			for _, at := range []uint64{5, 6} {
				p := open(t, room)
				p.pushes(comes(5, first))
				p.noPush(at, last-first+1, api.ErrMany)
				p.noPush(at, last, api.ErrMany)
				p.pushes(comes(at, last-first))
				for _, amount := range []uint64{1, 2, last / 2, last - 1, last} {
					for _, at := range []uint64{6, 7, last} {
						p.noPush(at, amount, api.ErrMany)
					}
				}
				p.takes(last, last)
				p.pushes(comes(0, last))
				p.noPush(1, 1, api.ErrMany)
			}
		}
	}
}

// P16.1, Push: the amounts of all the refills count, not only the last one's; and what is taken counts no more.
func TestPushManyOfAll(t *testing.T) {
	for room := 2; room <= 16; room++ {
		p := open(t, room)
		share := last / 32
		for i := range uint64(31) {
			p.pushes(comes(i, share))
		}
		p.noPush(31, share+1, api.ErrMany)
		p.pushes(comes(31, share-1))
		p.noPush(31, 2, api.ErrMany)
		p.noPush(32, 2, api.ErrMany)
		p.pushes(comes(32, 1))
		p.noPush(33, 1, api.ErrMany)
		first, _ := p.q.Next()
		taken := p.take(first)
		if taken == 0 || taken == last {
			t.Fatal(room, taken)
		}
		p.noPush(33, taken+1, api.ErrMany)
		p.pushes(comes(33, taken))
		p.noPush(33, 1, api.ErrMany)
		p.clear()
		p.pushes(comes(0, last))
	}
}

// P16.1, Push: ErrRange is ahead of ErrMany, in rows with room and in full ones.
func TestRangeAheadOfMany(t *testing.T) {
	for _, room := range []int{1, 2, 16} {
		p := open(t, room)
		p.pushes(comes(10, last))
		p.noPush(10, 1, api.ErrMany)
		p.noPush(11, 1, api.ErrMany)
		p.noPush(last, last, api.ErrMany)
		p.noPush(9, 1, api.ErrRange)
		p.noPush(9, last, api.ErrRange)
		p.noPush(last+1, 1, api.ErrRange)
		p.noPush(most, last, api.ErrRange)
		for _, amount := range []uint64{0, last + 1, 1 << 63, most - last + 1, most} {
			p.noPush(10, amount, api.ErrRange)
			p.noPush(11, amount, api.ErrRange)
		}
	}
}

// P16.1, Push: a row that is full: the last refill has the new time, and all those amounts; the others stay.
func TestFull(t *testing.T) {
	for room := 1; room <= 16; room++ {
		p := fill(t, room, room)
		want := p.q.List()
		end := &want[room-1]
		for i := range uint64(6) {
			end.At += i % 3 // also of the last one's time
			end.Amount += i + 1
			p.pushes(comes(end.At, i+1))
			p.lists(want...)
			p.noPush(end.At-1, 1, api.ErrRange)
		}
		end.At, end.Amount = last, end.Amount+100
		p.pushes(comes(last, 100))
		p.lists(want...)
		p.noPush(last+1, 1, api.ErrRange)
		p.takes(last-1, p.q.Total()-end.Amount)
		p.takes(last, end.Amount)
		p.none()
	}
}

// P16.1, Push: a row has all its room, not one refill less.
func TestAllRoom(t *testing.T) {
	p := open(t, 3)
	p.pushes(comes(1, 1), comes(2, 2), comes(3, 3))
	p.lists(comes(1, 1), comes(2, 2), comes(3, 3))
	p.pushes(comes(4, 4))
	p.lists(comes(1, 1), comes(2, 2), comes(4, 7))
	p.pushes(comes(6, 5), comes(6, 6))
	p.lists(comes(1, 1), comes(2, 2), comes(6, 18))
}

// P16.1, Push: of a full row, an amount comes back later, never ahead of its time.
func TestNeverAhead(t *testing.T) {
	for room := 1; room <= 16; room++ {
		p := open(t, room)
		var pushed, back uint64
		for now := range uint64(200) {
			p.pushes(comes(now+30, now+1))
			if now >= 30 {
				pushed += now - 29 // what was told to come back by now
			}
			if back += p.take(now); back > pushed {
				t.Fatal(room, now, back, pushed)
			}
		}
		back += p.take(229)
		if back != 200*201/2 {
			t.Fatal(room, back)
		}
		p.none()
	}
}

// P16.1, Push: behind a Take there is room again, for as many as have gone.
func TestRoomAgain(t *testing.T) {
	for room := 1; room <= 16; room++ {
		for gone := 1; gone <= room; gone++ {
			p := fill(t, room, room)
			p.take(uint64(10 * gone))
			want := p.q.List()
			for i := range uint64(gone) {
				r := comes(1000+i, 50+i)
				p.pushes(r)
				want = append(want, r)
				p.lists(want...)
			}
			p.pushes(comes(2000, 1))
			want[room-1] = comes(2000, want[room-1].Amount+1)
			p.lists(want...)
		}
	}
}

// P16.1, Push: a Take bounds no time: once all are gone, there is no last refill any more.
func TestEarlierBehindTake(t *testing.T) {
	for _, room := range []int{1, 2, 3, 16} {
		p := open(t, room)
		p.pushes(comes(50, 5))
		p.takes(70, 5)
		p.pushes(comes(20, 2))
		p.lists(comes(20, 2))
		p.noPush(19, 1, api.ErrRange)
		p.takes(19, 0)
		p.takes(most, 2)
		p.pushes(comes(0, 1))
		p.lists(comes(0, 1))
		p.takes(0, 1)
		p.none()
	}
	p := open(t, 4)
	p.pushes(comes(30, 3), comes(40, 4))
	p.takes(35, 3)
	p.noPush(39, 1, api.ErrRange)
	p.noPush(30, 1, api.ErrRange)
	p.takes(39, 0)
	p.pushes(comes(40, 1))
	p.takes(41, 5)
	p.pushes(comes(5, 9), comes(41, 9))
	p.lists(comes(5, 9), comes(41, 9))
}

// P16.2, Take: of a time ahead of all, at, between and behind refills, from rows of each length.
func TestTake(t *testing.T) {
	for room := 1; room <= 16; room++ {
		for many := 1; many <= room; many++ {
			for now := range uint64(10*many + 12) {
				p := fill(t, room, many)
				all := p.q.List()
				gone := min(now/10, uint64(many))
				p.takes(now, gone*(gone+1)/2)
				p.lists(all[gone:]...)
			}
		}
	}
}

// P16.2, Take: of the ends of all times.
func TestTakeEnds(t *testing.T) {
	p := open(t, 4)
	p.pushes(comes(0, 1), comes(1, 20), comes(last-1, 300), comes(last, 4000))
	p.takes(0, 1)
	p.takes(1, 20)
	p.takes(1<<32, 0)
	p.takes(last-2, 0)
	p.takes(last-1, 300)
	p.lists(comes(last, 4000))
	p.takes(0, 0)
	p.takes(last, 4000)
	p.none()
	for _, now := range numbers() {
		for _, at := range good() {
			p.pushes(comes(at, last))
			if amount := p.take(now); amount != 0 && amount != last || (amount == last) != (at <= now) {
				t.Fatal(now, at, amount)
			}
			p.clear()
		}
	}
}

// P16.2, Take: of an earlier time: it takes nothing, and what is taken isn't there again.
func TestTakeEarlier(t *testing.T) {
	p := fill(t, 16, 12)
	p.takes(65, 21)
	for now := range uint64(66) {
		p.takes(now, 0)
	}
	p.takes(70, 7)
	p.takes(5, 0)
	p.takes(120, 50)
	p.none()
}

// P16.2, Next, Total and List: they change nothing, however often they are asked.
func TestAskedOften(t *testing.T) {
	for room := 1; room <= 16; room++ {
		p := fill(t, room, room)
		want := p.q.List()
		for range 50 {
			p.lists(want...)
		}
	}
}

// P16.2, Next and Total: behind each push and each take.
func TestNextTotal(t *testing.T) {
	p := open(t, 2)
	holds := func(at, total uint64) {
		t.Helper()
		if got, ok := p.q.Next(); got != at || !ok {
			t.Fatal(got, ok, at)
		}
		if sum := p.q.Total(); sum != total {
			t.Fatal(sum, total)
		}
	}
	p.pushes(comes(7, 3))
	holds(7, 3)
	p.pushes(comes(8, 10))
	holds(7, 13)
	p.pushes(comes(12, 100))
	holds(7, 113)
	p.takes(11, 3)
	holds(12, 110)
	p.pushes(comes(last, last-110))
	holds(12, last)
	p.takes(12, 110)
	holds(last, last-110)
	p.takes(last, last-110)
	p.none()
	p.pushes(comes(0, 1))
	holds(0, 1)
}

// P16.2, Clear: of an empty row and of full ones, and pushes behind it.
func TestClear(t *testing.T) {
	for room := 1; room <= 16; room++ {
		for many := range room + 1 {
			p := fill(t, room, many)
			p.clear()
			p.none()
			p.clear()
			p.none()
			p.pushes(comes(1, last)) // earlier than those that are gone, and as much as may be
			p.noPush(1, 1, api.ErrMany)
			p.noPush(0, 1, api.ErrRange)
			p.lists(comes(1, last))
			p.clear()
			var want []refill.Refill
			for i := range uint64(room) {
				want = append(want, comes(i, i+5))
			}
			p.pushes(want...)
			p.lists(want...)
		}
	}
}

// spoil overwrites a list, its spare room too.
func spoil(list []refill.Refill) {
	list = list[:cap(list)]
	for i := range list {
		list[i] = comes(77, 777)
	}
}

// P16.2: what List answers, changed or appended to, changes nothing of the row nor of another answer.
func TestAnswers(t *testing.T) {
	for room := 1; room <= 16; room++ {
		for many := range room + 1 {
			p := fill(t, room, many)
			want := slices.Clone(p.m.list)
			kept := p.q.List()
			spoiled := p.q.List()
			spoil(append(spoiled, comes(5, 5)))
			spoil(spoiled)
			if !slices.Equal(kept, want) {
				t.Fatal(room, many, kept)
			}
			p.lists(want...)
			spoil(append(kept, comes(6, 6)))
			spoil(kept)
			p.lists(want...)
			p.pushes(comes(1000, 4), comes(1001, 5))
			spoil(kept)
			spoil(append(kept[:0], comes(6, 6)))
			spoil(spoiled)
			p.take(10)
			p.pushes(comes(1002, 6))
		}
	}
}

// P16.2: what List answers is changed by nothing that is done to the row afterwards.
func TestAnswersStay(t *testing.T) {
	for room := 1; room <= 16; room++ {
		p := open(t, room)
		var answers, kept [][]refill.Refill
		keep := func() {
			list := p.q.List()
			answers = append(answers, list)
			kept = append(kept, slices.Clone(list))
		}
		keep()
		for i := range uint64(60) {
			p.pushes(comes(5*i-i%4, i+1))
			keep()
			if i%6 == 5 {
				p.take(2*i + i%9)
				keep()
			}
			if i == 30 {
				p.clear()
				keep()
			}
		}
		p.take(last)
		p.pushes(comes(3, 3))
		for i, list := range answers {
			if !slices.Equal(list, kept[i]) {
				t.Fatal(room, i, list, kept[i])
			}
			spoil(list)
			spoil(append(list, comes(5, 5)))
		}
		p.lists(comes(3, 3))
	}
}

// P1: no call panics, at all arguments.
func TestAllArguments(t *testing.T) {
	for _, room := range []int{1, 2, 3, 8, 16} {
		p := open(t, room)
		for i, at := range numbers() {
			for j, amount := range numbers() {
				p.push(at, amount)
				p.push(at+amount, amount/uint64(j+1))
				if (i+j)%7 == 0 {
					p.take(numbers()[(i*5+j)%len(numbers())])
				}
				if (i*3+j)%31 == 0 {
					p.clear()
				}
			}
		}
		p.take(most)
		p.none()
	}
}

// row: numbers that look mixed, the same for the same seed.
func row(seed uint64) func() uint64 {
	return func() uint64 {
		seed = seed*6364136223846793005 + 1442695040888963407
		return seed>>31 ^ seed<<17
	}
}

// step does one mixed call, with times of so many bits that go on with the time, and amounts of so many bits.
func (p *pair) step(next func() uint64, now uint64, times, amounts int) {
	p.t.Helper()
	ahead := next() >> (64 - times)
	amount := next() >> (64 - amounts)
	switch what := next() % 32; {
	case what < 7:
		p.take(now + ahead/2)
	case what == 7:
		p.take(numbers()[ahead%uint64(len(numbers()))])
	case what == 8 && ahead%4 == 0:
		p.clear()
	case what == 9:
		p.push(numbers()[ahead%uint64(len(numbers()))], amount)
	case what == 10:
		p.push(now+ahead, numbers()[amount%uint64(len(numbers()))])
	case what < 24: // at the last refill's time or behind it
		at := now + ahead
		if many := len(p.m.list); many > 0 {
			at = p.m.list[many-1].At + ahead/4
		}
		p.push(at, amount)
	default:
		p.push(now+ahead, amount)
	}
}

// P16.1 and P16.2: rows of mixed calls against the model, of each room, with few times and many, and amounts of all sizes.
func TestRows(t *testing.T) {
	for room := 1; room <= 16; room++ {
		for _, times := range []int{1, 2, 4, 8, 60} {
			for _, amounts := range []int{1, 3, 20, 59, 62, 64} {
				next := row(uint64(room*1000 + times*70 + amounts))
				p := open(t, room)
				for i := range uint64(500) {
					p.step(next, i/3, times, amounts)
				}
				p.take(most)
				p.none()
			}
		}
	}
}
