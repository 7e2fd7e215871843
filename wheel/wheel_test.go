package wheel_test

import (
	"math"
	"slices"
	"testing"
	"time"

	"warder/api"
	"warder/wheel"
)

// adds adds timers, each of which there isn't yet.
func (p *pair) adds(timers ...wheel.Due) {
	p.t.Helper()
	for _, d := range timers {
		if e := p.add(d.Id, d.At); e != api.OK {
			p.t.Fatalf("Add(%d, %d): %v", d.Id, d.At, e)
		}
	}
	p.same()
}

// noAdd holds that a timer isn't added, with this error, and that nothing changes.
func (p *pair) noAdd(id int, at uint64, want api.Errno) {
	p.t.Helper()
	if e := p.add(id, at); e != want {
		p.t.Fatalf("Add(%d, %d): %v, not %v", id, at, e, want)
	}
	p.same()
}

// cancels cancels timers that there are.
func (p *pair) cancels(ids ...int) {
	p.t.Helper()
	for _, id := range ids {
		if !p.cancel(id) {
			p.t.Fatalf("Cancel(%d): false", id)
		}
		p.same()
	}
}

// noCancel holds that numbers have no timer, and that nothing changes.
func (p *pair) noCancel(ids ...int) {
	p.t.Helper()
	for _, id := range ids {
		if p.cancel(id) {
			p.t.Fatalf("Cancel(%d): true", id)
		}
	}
	p.same()
}

// goes lets the time go on, and holds which timers are due.
func (p *pair) goes(to uint64, want ...wheel.Due) {
	p.t.Helper()
	if due := p.advance(to); !slices.Equal(due, want) {
		p.t.Fatalf("Advance(%d): %v, not %v", to, due, want)
	}
	p.same()
}

// first holds the first timer.
func (p *pair) first(id int, at uint64) {
	p.t.Helper()
	for range 2 {
		if d, ok := p.w.Next(); !ok || d != (wheel.Due{Id: id, At: at}) {
			p.t.Fatalf("Next: %v %v, not %d at %d", d, ok, id, at)
		}
	}
	p.same()
}

// none holds that there are no timers, and the time.
func (p *pair) none(now uint64) {
	p.t.Helper()
	d, ok := p.w.Next()
	if ok || d != (wheel.Due{}) || p.w.Len() != 0 || p.w.Now() != now {
		p.t.Fatalf("%v %v %d %d", d, ok, p.w.Len(), p.w.Now())
	}
	p.same()
}

// holds holds when a number's timer is due.
func (p *pair) holds(id int, want uint64) {
	p.t.Helper()
	if at, ok := p.w.At(id); at != want || !ok {
		p.t.Fatalf("At(%d): %d %v, not %d", id, at, ok, want)
	}
}

// lacks holds that numbers have no timer.
func (p *pair) lacks(ids ...int) {
	p.t.Helper()
	for _, id := range ids {
		if at, ok := p.w.At(id); at != 0 || ok {
			p.t.Fatalf("At(%d): %d %v", id, at, ok)
		}
	}
}

// noNumbers: numbers that no timer has, such as have the lowest bits of good ones among them.
func noNumbers() []int {
	return []int{-1, -2, -3, -999, -1000, math.MinInt32, math.MinInt, math.MinInt + 1, math.MinInt + 5, math.MinInt + 999,
		1000, 1001, 1023, 1024, 1029, 65536, 65541, 1<<24 + 5, math.MaxInt32, 1 << 31, 1 << 32, 1<<32 + 5, 1<<32 + 999, 1<<56 + 5, 1 << 62, math.MaxInt - 999, math.MaxInt - 1, math.MaxInt}
}

// noTimes: what is above the last time.
func noTimes() []uint64 {
	return []uint64{last + 1, last + 2, last + 5, last + 1<<32, last * 3 / 2, last*2 - 1, last * 2, last*2 + 1, last*2 + 5, last*2 + 100, last*3 + 5, math.MaxUint64 - 1, math.MaxUint64}
}

// turns: the times at which many digits turn at once, and those next to them, rising.
func turns() []uint64 {
	list := []uint64{0, last - 2, last}
	for _, base := range []uint64{2, 8, 10, 16, 64, 256} {
		for p := base; p <= last/base; p *= base {
			list = append(list, p-1, p, p+1)
		}
	}
	list = append(list, last/2-1, last/2, last/2+1, last-1)
	slices.Sort(list)
	return slices.Compact(list)
}

// soon holds that something ends in a time that a wheel which turns through all times, or one behind the other, can't keep.
func soon(t *testing.T, does func()) {
	t.Helper()
	done := make(chan bool)
	go func() {
		defer close(done)
		does()
	}()
	select {
	case <-done:
	case <-time.After(time.Minute):
		t.Fatal("it takes too long")
	}
}

// The chapter's example.
func TestExample(t *testing.T) {
	p := open(t, 0)
	p.adds(wheel.Due{Id: 3, At: 10}, wheel.Due{Id: 1, At: 10}, wheel.Due{Id: 2, At: 5})
	p.goes(10, wheel.Due{Id: 2, At: 5}, wheel.Due{Id: 1, At: 10}, wheel.Due{Id: 3, At: 10})
	p.none(10)
}

// P14.1, New: at good times there is a wheel without timers.
func TestNew(t *testing.T) {
	if last != api.LastClock {
		t.Fatal(last)
	}
	for _, now := range turns() {
		p := open(t, now)
		p.none(now)
		p.lacks(0, 1, 500, 999)
		p.noCancel(0, 1, 500, 999)
		p.goes(now)
		p.goes(0)
		p.none(now)
	}
}

// P14.1, New: above the last time.
func TestNewRange(t *testing.T) {
	for _, now := range noTimes() {
		if w, e := wheel.New(now); w != nil || e != api.ErrRange {
			t.Fatal(now, w, e)
		}
	}
}

// P14.1, Add: each number at each of the times next to the bounds, and to the wheel's.
func TestAdd(t *testing.T) {
	for _, now := range []uint64{0, 1, 2, 63, 64, 4096, 1 << 40, last - 1, last} {
		for _, id := range []int{0, 1, 2, 500, 998, 999} {
			for _, at := range []uint64{0, 1, now - 1, now, now + 1, now / 2, now * 2, last - 1, last} {
				if at > last {
					continue // where the time is an end of all times, one next to it is none
				}
				p := open(t, now)
				p.adds(wheel.Due{Id: id, At: at})
				p.holds(id, at)
				p.first(id, at)
				p.noAdd(id, at, api.ErrThere)
				p.goes(last, wheel.Due{Id: id, At: at})
				p.none(last)
			}
		}
	}
}

// P14.1, Add: all numbers.
func TestAddAll(t *testing.T) {
	p := open(t, 77)
	for id := range 1000 {
		if e := p.add(id, uint64(id*id%1013)); e != api.OK {
			t.Fatal(id, e)
		}
	}
	p.same()
	if p.w.Len() != 1000 {
		t.Fatal(p.w.Len())
	}
	for id := range 1000 {
		if e := p.add(id, 5); e != api.ErrThere {
			t.Fatal(id, e)
		}
	}
	p.same()
	p.noAdd(1000, 5, api.ErrRange)
	if due := p.advance(1012); len(due) != 1000 {
		t.Fatal(len(due))
	}
	p.none(1012)
}

// P14.1, Add: numbers and times out of bounds, of an empty wheel and of one with timers.
func TestAddRange(t *testing.T) {
	p := open(t, 100)
	for range 2 {
		for _, id := range noNumbers() {
			for _, at := range []uint64{0, 5, 100, 101, last, last + 1, math.MaxUint64} {
				p.noAdd(id, at, api.ErrRange)
			}
		}
		for _, at := range noTimes() {
			for _, id := range []int{0, 1, 5, 500, 999} {
				p.noAdd(id, at, api.ErrRange)
			}
		}
		p.add(5, 300)
		p.add(999, 20)
		p.add(0, last)
	}
	p.goes(300, wheel.Due{Id: 999, At: 20}, wheel.Due{Id: 5, At: 300})
}

// P14.1, Add: of a number that has a timer, the elder one stays; and ErrRange is ahead of ErrThere.
func TestAddThere(t *testing.T) {
	p := open(t, 100)
	elders := []wheel.Due{{Id: 0, At: 50}, {Id: 7, At: 100}, {Id: 8, At: 101}, {Id: 999, At: 5000}}
	p.adds(elders...)
	for _, d := range elders {
		for _, at := range []uint64{0, 1, 50, 99, 100, 101, 102, 5000, 1 << 40, last} {
			p.noAdd(d.Id, at, api.ErrThere)
		}
		for _, at := range noTimes() {
			p.noAdd(d.Id, at, api.ErrRange)
		}
		p.holds(d.Id, d.At)
	}
	p.goes(100, elders[:2]...)
	p.noAdd(8, 7, api.ErrThere)
	p.goes(4999, elders[2])
	p.noAdd(999, 4999, api.ErrThere)
	p.goes(last, elders[3])
}

// P14.1, Cancel: each of many timers, past, due now, near and far.
func TestCancel(t *testing.T) {
	times := []uint64{3, 99, 100, 101, 102, 103, 107, 108, 127, 128, 200, 4096, 4096, 1 << 40, last - 1, last}
	for gone := range times {
		p := open(t, 100)
		for id, at := range times {
			p.adds(wheel.Due{Id: id * 7, At: at})
		}
		p.cancels(gone * 7)
		p.lacks(gone * 7)
		p.noCancel(gone*7, gone*7)
		if p.w.Len() != len(times)-1 {
			t.Fatal(p.w.Len())
		}
		for _, to := range []uint64{100, 101, 110, 4096, last} {
			for _, d := range p.advance(to) {
				if d.Id == gone*7 {
					t.Fatal(gone, to)
				}
			}
			p.noCancel(gone * 7)
		}
		p.none(last)
	}
}

// P14.1, Cancel: all, in two orders, the first one and the last one.
func TestCancelAll(t *testing.T) {
	for _, down := range []bool{false, true} {
		p := open(t, 9)
		for id := range 40 {
			p.adds(wheel.Due{Id: id, At: uint64(id) * 3})
		}
		for i := range 40 {
			if id := i; down {
				p.cancels(39 - id)
			} else {
				p.cancels(id)
			}
		}
		p.none(9)
		p.goes(last)
	}
}

// P14.1, Cancel: a timer behind a step of time that it was not due at, as often as it is told anew where it lies.
func TestCancelBehind(t *testing.T) {
	for _, at := range []uint64{1 << 8, 1<<16 + 300, 123456789, 1 << 60, last} {
		for _, left := range []uint64{0, 1, 2, 7, 8, 9, 63, 64, 65, 255} {
			p := open(t, 0)
			p.adds(wheel.Due{Id: 4, At: at}, wheel.Due{Id: 6, At: at})
			for to := uint64(1); to < at-left; to *= 5 {
				p.goes(to)
			}
			p.goes(at - left - 1)
			p.cancels(4)
			p.first(6, at)
			p.noCancel(4)
			p.goes(at, wheel.Due{Id: 6, At: at})
			p.noCancel(6)
		}
	}
}

// P14.1, Cancel: numbers without a timer, and what is no number.
func TestCancelNone(t *testing.T) {
	p := open(t, 100)
	p.noCancel(0, 1, 5, 999)
	p.noCancel(noNumbers()...)
	p.adds(wheel.Due{Id: 5, At: 200}, wheel.Due{Id: 0, At: 3})
	p.noCancel(1, 4, 6, 998, 999)
	p.noCancel(noNumbers()...)
	p.goes(150, wheel.Due{Id: 0, At: 3})
	p.noCancel(0)
	p.noCancel(noNumbers()...)
	p.cancels(5)
	p.noCancel(5)
}

// P14.1: a number that was cancelled, or was due, is free to be added again.
func TestAgain(t *testing.T) {
	p := open(t, 10)
	for i := range uint64(50) {
		now := p.w.Now()
		p.adds(wheel.Due{Id: 999, At: now + 5 + i})
		p.cancels(999)
		p.adds(wheel.Due{Id: 999, At: now + 2*i})
		p.noAdd(999, now, api.ErrThere)
		p.goes(now+2*i, wheel.Due{Id: 999, At: now + 2*i})
		p.adds(wheel.Due{Id: 999, At: now / 2})
		p.cancels(999)
		p.adds(wheel.Due{Id: 999, At: now})
		p.goes(0, wheel.Due{Id: 999, At: now})
		p.goes(now + 3*i)
	}
}

// P14.2, Advance: to times ahead of, at and behind one timer, in each place of it.
func TestAdvanceOne(t *testing.T) {
	for _, at := range turns() {
		if at < 3 || at > last-3 {
			continue
		}
		for _, now := range []uint64{0, 1, at / 2, at - 3, at - 2} {
			d := wheel.Due{Id: 17, At: at}
			p := open(t, now)
			p.adds(d)
			p.goes(at - 1)
			p.first(17, at)
			p.goes(at, d)
			p.none(at)
			p.adds(d)
			p.goes(at+1, d)
			p.none(at + 1)
			q := open(t, now)
			p.lacks(17)
			q.adds(d)
			q.goes(at+2, d)
			q.none(at + 2)
		}
	}
}

// P14.2, Advance: many timers of one time, the lesser number first, in whatever order they were added.
func TestAdvanceOneTime(t *testing.T) {
	for _, at := range []uint64{0, 20, 50, 51, 57, 64, 1 << 20, last} {
		var want []wheel.Due
		for id := range 1000 {
			want = append(want, wheel.Due{Id: id, At: at})
		}
		p := open(t, 50)
		for i := range 1000 {
			p.add(i*617%1000, at)
		}
		p.first(0, at)
		p.goes(max(at, 50), want...)
		p.none(max(at, 50))
	}
}

// P14.2, Advance: times in order, where numbers run with them, against them and across them, past ones among them.
func TestAdvanceOrder(t *testing.T) {
	for _, step := range []uint64{1, 2, 7, 8, 9, 64, 1000, 1 << 30, 1 << 52} {
		for _, turn := range []int{1, 999, 37, 501} {
			p := open(t, 40*step)
			var want []wheel.Due
			for i := range 1000 {
				want = append(want, wheel.Due{Id: i * turn % 1000, At: uint64(i/2) * step})
			}
			for i := range want {
				p.add(want[i*617%1000].Id, want[i*617%1000].At)
			}
			for i := 0; i < 1000; i += 2 {
				if want[i].Id > want[i+1].Id {
					want[i], want[i+1] = want[i+1], want[i]
				}
			}
			p.first(want[0].Id, want[0].At)
			p.goes(100*step, want[:202]...)
			p.first(want[202].Id, want[202].At)
			p.goes(last, want[202:]...)
		}
	}
}

// P14.2, Advance: to an earlier time and to the same one: what is due by the wheel's time, and the time stays.
func TestAdvanceBack(t *testing.T) {
	for _, to := range []uint64{0, 1, 3, 50, 99, 100} {
		p := open(t, 100)
		p.goes(to)
		p.none(100)
		p.adds(wheel.Due{Id: 1, At: 100}, wheel.Due{Id: 2, At: 101}, wheel.Due{Id: 3, At: 99}, wheel.Due{Id: 4, At: 0}, wheel.Due{Id: 5, At: 7}, wheel.Due{Id: 0, At: 104})
		p.first(4, 0)
		p.goes(to, wheel.Due{Id: 4, At: 0}, wheel.Due{Id: 5, At: 7}, wheel.Due{Id: 3, At: 99}, wheel.Due{Id: 1, At: 100})
		p.goes(to)
		p.first(2, 101)
		p.goes(101, wheel.Due{Id: 2, At: 101})
		p.goes(to)
		p.adds(wheel.Due{Id: 2, At: 101})
		p.goes(to, wheel.Due{Id: 2, At: 101})
		p.first(0, 104)
		p.goes(104, wheel.Due{Id: 0, At: 104})
		p.none(104)
	}
}

// P14.2, Advance: above the last time nothing changes, and nothing is answered, also not what is past.
func TestAdvanceRange(t *testing.T) {
	for _, now := range []uint64{0, 100, 1 << 40, last - 1, last} {
		p := open(t, now)
		for _, to := range noTimes() {
			p.goes(to)
			p.none(now)
		}
		p.adds(wheel.Due{Id: 1, At: now}, wheel.Due{Id: 2, At: now / 2}, wheel.Due{Id: 3, At: last}, wheel.Due{Id: 0, At: 0})
		for _, to := range noTimes() {
			p.goes(to)
			p.first(0, 0)
			p.holds(3, last)
			if p.w.Now() != now || p.w.Len() != 4 {
				t.Fatal(to, p.w.Now(), p.w.Len())
			}
		}
		if due := p.advance(now); len(due) < 3 {
			t.Fatal(now, due)
		}
		p.same()
	}
}

// P14.2, Advance: to the last time, and on at it.
func TestAdvanceLast(t *testing.T) {
	for _, now := range turns() {
		p := open(t, now)
		p.adds(wheel.Due{Id: 9, At: last}, wheel.Due{Id: 8, At: last})
		if now < last {
			p.goes(last - 1)
			p.first(8, last)
		}
		p.goes(last, wheel.Due{Id: 8, At: last}, wheel.Due{Id: 9, At: last})
		p.goes(last)
		p.none(last)
		p.adds(wheel.Due{Id: 5, At: last}, wheel.Due{Id: 6, At: 0}, wheel.Due{Id: 7, At: last - 1})
		p.first(6, 0)
		p.goes(last, wheel.Due{Id: 6, At: 0}, wheel.Due{Id: 7, At: last - 1}, wheel.Due{Id: 5, At: last})
		p.noAdd(5, last+1, api.ErrRange)
		p.none(last)
	}
}

// P14.2, Advance: twice to one time, the second answers nothing.
func TestAdvanceTwice(t *testing.T) {
	p := open(t, 0)
	for id, at := range turns() {
		p.adds(wheel.Due{Id: id, At: at})
	}
	for _, to := range turns() {
		p.goes(to, p.m.list[0])
		p.goes(to)
		p.goes(to)
	}
	p.none(last)
}

// spread: timers near and far from a time, past ones too, two of each.
func spread(now uint64) []wheel.Due {
	var list []wheel.Due
	for i, by := range turns() {
		if now <= last-by {
			list = append(list, wheel.Due{Id: i, At: now + by}, wheel.Due{Id: 999 - i, At: now + by})
		}
	}
	return append(list, wheel.Due{Id: 400, At: now / 2}, wheel.Due{Id: 401, At: now}, wheel.Due{Id: 402, At: 0})
}

// P14.2, Advance: what many steps tell, one behind the other, is what one step tells.
func TestAdvanceSteps(t *testing.T) {
	for _, now := range []uint64{0, 1, 7, 8, 100, 4095, 4096, 123456789, 1<<40 - 1, last/2 - 1, last / 2} {
		one := open(t, now)
		one.adds(spread(now)...)
		want := one.advance(last)
		one.none(last)
		for _, ratio := range []uint64{2, 3, 10, 1000, 1 << 20} {
			p := open(t, now)
			p.adds(spread(now)...)
			var got []wheel.Due
			for by := uint64(1); by < (last-now)/ratio; by *= ratio {
				got = append(got, p.advance(now+by)...)
			}
			p.same()
			got = append(got, p.advance(last)...)
			if !slices.Equal(got, want) {
				t.Fatal(now, ratio, got)
			}
		}
	}
}

// P14.2, Advance: over each place where many digits turn at once, by one and one, and at a time.
func TestAdvanceTurns(t *testing.T) {
	for _, turn := range turns() {
		from := turn - min(turn, 20)
		to := min(turn+20, last)
		for _, step := range []uint64{1, 2, 3, 7, 40} {
			p := open(t, from)
			for i := range to - from + 1 {
				p.add(int(900-i), from+i)
				p.add(int(100+i*7), from+i)
			}
			p.same()
			for at := from; at <= to; at += step {
				if due := p.advance(at); step == 1 && len(due) != 2 {
					t.Fatal(turn, at, due)
				}
			}
			p.same()
		}
	}
}

// P14.2, Advance: from turns of digits to each later one in one step, with timers at all of them.
func TestAdvanceBetween(t *testing.T) {
	all := turns()
	for i := 0; i < len(all); i += 12 {
		for j := i; j < len(all); j++ {
			p := open(t, all[i])
			for k := i; k < len(all); k++ {
				p.add(k, all[k])
			}
			if due := p.advance(all[j]); len(due) != j-i+1 {
				t.Fatal(all[i], all[j], due)
			}
			p.same()
			if due := p.advance(last); len(due) != len(all)-j-1 {
				t.Fatal(all[i], all[j], due)
			}
		}
	}
}

// P14.2 and P14.3: from 0 to the last time in no noticeable time, with one timer and with a thousand, in one step and in many.
func TestAdvanceSoon(t *testing.T) {
	soon(t, func() {
		for _, many := range []int{0, 1, 1000} {
			w, _ := wheel.New(0)
			for id := range many {
				w.Add(id, last-uint64(id)*(last/1000))
			}
			if due := w.Advance(last); len(due) != many || w.Now() != last {
				t.Error(many, len(due), w.Now())
			}
		}
	})
	soon(t, func() {
		for range 20000 {
			w, _ := wheel.New(0)
			w.Add(5, last)
			if due := w.Advance(last); len(due) != 1 {
				t.Error(due)
			}
		}
	})
	soon(t, func() {
		w, _ := wheel.New(0)
		w.Add(5, last)
		for i := range uint64(1 << 18) {
			if due := w.Advance(i << 44); len(due) != 0 {
				t.Error(due)
			}
			w.Next()
		}
		if due := w.Advance(last); len(due) != 1 {
			t.Error(due)
		}
	})
}

// P14.2, Next: the first in order, of past timers, of those that are due now and of later ones, and it stays.
func TestNext(t *testing.T) {
	p := open(t, 1000)
	p.adds(wheel.Due{Id: 50, At: last})
	p.first(50, last)
	for _, d := range []wheel.Due{{Id: 60, At: last - 1}, {Id: 59, At: last - 1}, {Id: 70, At: 1 << 40}, {Id: 71, At: 5000}, {Id: 72, At: 1024}, {Id: 73, At: 1023}, {Id: 74, At: 1008}, {Id: 75, At: 1007}, {Id: 76, At: 1002}, {Id: 77, At: 1001}, {Id: 78, At: 1000}, {Id: 30, At: 1000}, {Id: 79, At: 999}, {Id: 29, At: 999}, {Id: 80, At: 5}, {Id: 81, At: 0}, {Id: 0, At: 0}} {
		p.adds(d)
		p.first(d.Id, d.At)
	}
	p.cancels(0)
	p.first(81, 0)
	p.cancels(81, 80)
	p.first(29, 999)
	p.goes(1000, wheel.Due{Id: 29, At: 999}, wheel.Due{Id: 79, At: 999}, wheel.Due{Id: 30, At: 1000}, wheel.Due{Id: 78, At: 1000})
	p.first(77, 1001)
	p.goes(1006, wheel.Due{Id: 77, At: 1001}, wheel.Due{Id: 76, At: 1002})
	p.first(75, 1007)
	p.cancels(75, 74)
	p.first(73, 1023)
	p.goes(1023, wheel.Due{Id: 73, At: 1023})
	p.first(72, 1024)
	p.goes(1<<40, wheel.Due{Id: 72, At: 1024}, wheel.Due{Id: 71, At: 5000}, wheel.Due{Id: 70, At: 1 << 40})
	p.first(59, last-1)
	p.cancels(59)
	p.first(60, last-1)
	p.cancels(60)
	p.first(50, last)
	p.goes(last, wheel.Due{Id: 50, At: last})
	p.none(last)
}

// P14.2, Now, Len and At: behind each call, and of what is no number.
func TestTold(t *testing.T) {
	p := open(t, 8)
	p.lacks(noNumbers()...)
	p.adds(wheel.Due{Id: 0, At: 9}, wheel.Due{Id: 999, At: 0}, wheel.Due{Id: 5, At: 8})
	p.lacks(noNumbers()...)
	p.lacks(1, 4, 6, 998)
	p.holds(0, 9)
	p.holds(999, 0)
	p.holds(5, 8)
	if p.w.Len() != 3 || p.w.Now() != 8 {
		t.Fatal(p.w.Len(), p.w.Now())
	}
	p.advance(2)
	p.lacks(999, 5)
	p.holds(0, 9)
	if p.w.Len() != 1 || p.w.Now() != 8 {
		t.Fatal(p.w.Len(), p.w.Now())
	}
	p.advance(5000)
	p.lacks(0, 999, 5)
	p.none(5000)
}

// spoil overwrites a list, its spare room too.
func spoil(list []wheel.Due) {
	list = list[:cap(list)]
	for i := range list {
		list[i] = wheel.Due{Id: 77, At: 77}
	}
}

// P14.3: what Advance answers, changed or appended to, changes nothing of the wheel.
func TestAnswers(t *testing.T) {
	for _, step := range []uint64{1, 8, 5000, 1 << 40} {
		p := open(t, 2*step)
		for id := range 60 {
			p.add(id, uint64(id/3)*step)
		}
		for i := range uint64(19) {
			due := p.advance(i * step)
			spoil(append(due, wheel.Due{Id: 5, At: 5}))
			spoil(due)
			p.same()
			spoil(append(p.w.Advance(0), wheel.Due{Id: 5, At: 5}))
			spoil(append(p.w.Advance(math.MaxUint64), wheel.Due{Id: 5, At: 5}))
			p.same()
			p.add(int(i), 30*step)
		}
		p.advance(last)
		p.none(last)
	}
}

// P14.3: no answer shares memory with another one, nor do later calls change it.
func TestAnswersApart(t *testing.T) {
	for _, each := range []int{1, 2, 3, 9} {
		p := open(t, 0)
		for id := range 300 {
			p.add(id, uint64(id/each))
		}
		var answers, kept [][]wheel.Due
		for at := range uint64(300 / each) {
			due := p.advance(at)
			answers = append(answers, due)
			kept = append(kept, slices.Clone(due))
		}
		for i, list := range answers {
			if !slices.Equal(list, kept[i]) {
				t.Fatal(i, list)
			}
			spoil(list)
			spoil(append(list, wheel.Due{Id: 5, At: 5}))
		}
		p.same()
	}
}

// P14.1 and P14.2: two wheels, of which neither changes the other.
func TestTwoWheels(t *testing.T) {
	a, b := open(t, 10), open(t, 10)
	a.adds(wheel.Due{Id: 1, At: 12}, wheel.Due{Id: 2, At: 9})
	b.none(10)
	b.adds(wheel.Due{Id: 1, At: 500})
	a.holds(1, 12)
	a.goes(12, wheel.Due{Id: 2, At: 9}, wheel.Due{Id: 1, At: 12})
	b.same()
	b.first(1, 500)
	b.cancels(1)
	a.same()
	a.adds(wheel.Due{Id: 1, At: 13})
	b.goes(600)
	a.first(1, 13)
}

// P1: no call panics, at all arguments.
func TestAllArguments(t *testing.T) {
	times := append(turns(), noTimes()...)
	ids := append([]int{0, 1, 5, 999}, noNumbers()...)
	for _, now := range times {
		w, e := wheel.New(now)
		if e != api.OK {
			continue
		}
		p := &pair{t, w, &model{now: now}}
		for i, at := range times {
			id := ids[i%len(ids)]
			p.add(id, at)
			p.cancel(ids[i*3%len(ids)])
			p.advance(times[(i*7+3)%len(times)] / 2)
		}
		for _, id := range ids {
			p.cancel(id)
			p.w.At(id)
		}
		p.same()
		p.advance(math.MaxUint64)
		p.advance(last)
		p.none(last)
	}
}

// row: numbers that look mixed, the same for the same seed.
func row(seed uint64) func() uint64 {
	return func() uint64 {
		seed = seed*6364136223846793005 + 1442695040888963407
		return seed>>31 ^ seed<<17
	}
}

// near: a time not far from one, as far as so many bits let it be, on both sides.
func near(now uint64, bits int, next func() uint64) uint64 {
	by := next() >> (64 - bits)
	if next()%4 == 0 {
		return now - min(now, by)
	}
	return now + by // it may be above the last time
}

// step does one mixed call.
func (p *pair) step(next func() uint64, ids, bits int) {
	p.t.Helper()
	id := int(next() % uint64(ids))
	switch what := next() % 16; {
	case what < 8:
		p.add(id, near(p.m.now, bits, next))
	case what < 10:
		p.cancel(id)
	case what == 10:
		others := noNumbers()
		p.noAdd(others[id%len(others)], near(p.m.now, bits, next), api.ErrRange)
		p.noCancel(others[id%len(others)])
	case what == 11:
		p.add(id, turns()[next()%200])
	default:
		p.advance(near(p.m.now, 1+int(next()%uint64(bits)), next))
	}
	p.brief()
}

// P14.1 and P14.2: rows of mixed calls against the model, of few numbers and of all, over short and long times.
func TestRows(t *testing.T) {
	for i, ids := range []int{1, 2, 5, 20, 100, 1000} {
		for _, bits := range []int{1, 3, 6, 8, 12, 20, 40, 55, 59, 62} {
			next := row(uint64(i*100 + bits))
			p := open(t, next()>>2>>(next()%62))
			for i := range 600 {
				p.step(next, ids, bits)
				if i%20 == 0 {
					p.same()
				}
			}
			p.same()
			p.advance(last)
			p.none(last)
		}
	}
}
