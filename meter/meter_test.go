package meter_test

import (
	"math"
	"math/big"
	"slices"
	"testing"

	"warder/api"
	"warder/meter"
)

const last = uint64(1) << 62

// prices: each kind's cycles, at its number, as the chapter tells them.
var prices = []uint64{0, 1, 2, 3, 20, 50, 30, 40, 64}

// noKinds: numbers that are no kind's.
var noKinds = []int{0, 9, 10, 16, 255, 256, 257, 1 << 32, 1<<32 + 1, 1 << 56, math.MaxInt32, math.MaxInt - 1, math.MaxInt, -1, -2, -8, -9, -256, math.MinInt32, math.MinInt + 1, math.MinInt}

// noCores: numbers of cores that a meter of so many hasn't.
func noCores(cores int) []int {
	return []int{cores, cores + 1, 4, 5, 256, 1 << 32, 1<<32 + 1, 1 << 56, math.MaxInt32, math.MaxInt - 1, math.MaxInt, -1, -2, -cores, -256, math.MinInt32, math.MinInt + 1, math.MinInt}
}

// begin: a meter of so many cores.
func begin(t *testing.T, cores int) *meter.Meter {
	t.Helper()
	m, e := meter.New(cores)
	if e != api.OK || m == nil {
		t.Fatalf("New(%d): %v", cores, e)
	}
	return m
}

// charge: a charge that must answer this.
func charge(t *testing.T, m *meter.Meter, core, kind int, times uint64, want api.Errno) {
	t.Helper()
	if e := m.Charge(core, kind, times); e != want {
		t.Fatalf("Charge(%d, %d, %d): %v, not %v", core, kind, times, e, want)
	}
}

// wait: a wait that must answer this.
func wait(t *testing.T, m *meter.Meter, core int, until uint64, want api.Errno) {
	t.Helper()
	if e := m.Wait(core, until); e != want {
		t.Fatalf("Wait(%d, %d): %v, not %v", core, until, e, want)
	}
}

// core: all that a meter tells of a core.
type core struct {
	clock, idle uint64
	spent       [9]uint64
}

// told: all that a meter tells of its cores and of more numbers than it has, and whether it is stopped.
func told(m *meter.Meter) ([6]core, bool) {
	var all [6]core
	for n := range all {
		all[n].clock, all[n].idle = m.Clock(n), m.Idle(n)
		for kind := range all[n].spent {
			all[n].spent[kind] = m.Spent(n, kind)
		}
	}
	return all, m.Stopped()
}

// holds: a meter tells this and nothing else; each clock is the sum of what was spent and idle.
func holds(t *testing.T, m *meter.Meter, want [6]core, stopped bool) {
	t.Helper()
	got, stop := told(m)
	if got != want || stop != stopped {
		t.Fatalf("%v %t, not %v %t", got, stop, want, stopped)
	}
	for n, c := range got {
		sum := c.idle
		for _, x := range c.spent {
			sum += x
		}
		if sum != c.clock {
			t.Fatalf("core %d: the clock is %d, spent and idle are %d", n, c.clock, sum)
		}
	}
}

// same: what a call does changes nothing that a meter tells.
func same(t *testing.T, m *meter.Meter, call func()) {
	t.Helper()
	before, stopped := told(m)
	call()
	holds(t, m, before, stopped)
}

// P5.1, Cost: every kind's, by its name and by its number.
func TestCost(t *testing.T) {
	names := []int{meter.CIns, meter.CMem, meter.CWalk, meter.CTrap, meter.CSwitch, meter.CIrq, meter.CCall, meter.CCopy}
	for i, kind := range names {
		if kind != i+1 {
			t.Errorf("kind %d is the number %d", i+1, kind)
		}
		if c := meter.Cost(kind); c != prices[i+1] {
			t.Errorf("Cost(%d): %d, not %d", kind, c, prices[i+1])
		}
	}
}

// P5.1, Cost: others cost nothing.
func TestCostOfNone(t *testing.T) {
	for _, kind := range noKinds {
		if c := meter.Cost(kind); c != 0 {
			t.Errorf("Cost(%d): %d", kind, c)
		}
	}
}

// P5.1, New: 1 to 4 cores, whose clocks are 0; each of them is there, and none beyond.
func TestNew(t *testing.T) {
	for cores := 1; cores <= 4; cores++ {
		m := begin(t, cores)
		holds(t, m, [6]core{}, false)
		var want [6]core
		for n := range cores {
			charge(t, m, n, meter.CTrap, uint64(n+1), api.OK)
			want[n].clock = 20 * uint64(n+1)
			want[n].spent[meter.CTrap] = want[n].clock
		}
		holds(t, m, want, false)
		charge(t, m, cores, meter.CTrap, 1, api.ErrRange)
		wait(t, m, cores, 1, api.ErrRange)
		holds(t, m, want, false)
	}
}

// P5.1, New: ErrRange and nil else.
func TestNewRange(t *testing.T) {
	for _, n := range []int{0, -1, -2, -4, math.MinInt32, math.MinInt + 1, math.MinInt, 5, 6, 8, 256, 257, 1 << 20, 1 << 32, 1<<32 + 1, math.MaxInt - 1, math.MaxInt} {
		if m, e := meter.New(n); m != nil || e != api.ErrRange {
			t.Errorf("New(%d): %v", n, e)
		}
	}
}

// P5.1: two meters share nothing, nor does one that is stopped stop the other.
func TestNewApart(t *testing.T) {
	m, o := begin(t, 2), begin(t, 2)
	charge(t, m, 0, meter.CCall, 3, api.OK)
	wait(t, m, 1, last, api.ErrStop)
	holds(t, o, [6]core{}, false)
	charge(t, o, 1, meter.CIns, 1, api.OK)
}

// P5.1, the chapter's example.
func TestExample(t *testing.T) {
	m := begin(t, 1)
	charge(t, m, 0, meter.CTrap, 2, api.OK)
	if c := m.Clock(0); c != 40 {
		t.Errorf("the clock is %d", c)
	}
}

// P5.1, Charge: of each core and kind the clock goes on by the cost, so many times, and the kind has taken it; no other core and no other kind.
func TestCharge(t *testing.T) {
	m := begin(t, 4)
	var want [6]core
	for n := range 4 {
		for kind := 1; kind <= 8; kind++ {
			for _, times := range []uint64{1, 0, 2, 7, 1000000} {
				charge(t, m, n, kind, times, api.OK)
				want[n].clock += prices[kind] * times
				want[n].spent[kind] += prices[kind] * times
				holds(t, m, want, false)
			}
		}
	}
}

// P5.1, Charge: no such core, or a kind without a cost, is ErrRange, so many times or 0 times, and changes nothing.
func TestChargeRange(t *testing.T) {
	for _, cores := range []int{1, 2, 4} {
		m := begin(t, cores)
		charge(t, m, 0, meter.CIrq, 3, api.OK)
		wait(t, m, 0, 100, api.OK)
		same(t, m, func() {
			for _, times := range []uint64{0, 1, last, math.MaxUint64} {
				for _, n := range noCores(cores) {
					charge(t, m, n, meter.CIns, times, api.ErrRange)
					charge(t, m, n, 0, times, api.ErrRange)
				}
				for _, kind := range noKinds {
					charge(t, m, 0, kind, times, api.ErrRange)
				}
			}
		})
	}
}

// P5.1, Charge: that there is no such core or cost is told ahead of that the meter is stopped.
func TestChargeRangeStopped(t *testing.T) {
	m := begin(t, 2)
	charge(t, m, 1, meter.CIns, last, api.ErrStop)
	same(t, m, func() {
		for _, n := range noCores(2) {
			charge(t, m, n, meter.CIns, 1, api.ErrRange)
		}
		for _, kind := range noKinds {
			charge(t, m, 0, kind, 1, api.ErrRange)
			charge(t, m, 1, kind, 0, api.ErrRange)
		}
	})
}

// P5.1, Charge: 0 times is nothing, one cycle ahead of LastClock too.
func TestChargeNothing(t *testing.T) {
	for _, clock := range []uint64{0, 1, 77, last - 1} {
		m := begin(t, 2)
		wait(t, m, 1, clock, api.OK)
		same(t, m, func() {
			for kind := 1; kind <= 8; kind++ {
				charge(t, m, 1, kind, 0, api.OK)
			}
		})
	}
}

// P5.1, Charge: up to one cycle ahead of LastClock is OK; the cycle behind it stops the meter.
func TestChargeUpToLast(t *testing.T) {
	m := begin(t, 2)
	var want [6]core
	charge(t, m, 1, meter.CIns, last-1, api.OK)
	want[1] = core{clock: last - 1, spent: [9]uint64{meter.CIns: last - 1}}
	holds(t, m, want, false)
	charge(t, m, 0, meter.CMem, 1, api.OK)
	want[0] = core{clock: 2, spent: [9]uint64{meter.CMem: 2}}
	holds(t, m, want, false)
	charge(t, m, 1, meter.CIns, 1, api.ErrStop)
	want[1] = core{clock: last, spent: [9]uint64{meter.CIns: last}}
	holds(t, m, want, true)
}

// P5.1, Charge: of each kind the most times that leave a cycle don't stop the meter, and once more does; the cycles up to LastClock count as the kind's.
func TestChargeEdge(t *testing.T) {
	for kind := 1; kind <= 8; kind++ {
		for _, clock := range []uint64{0, 1, 63, 64, 1 << 40, last - 129, last - 128, last - 65, last - 64, last - 2, last - 1} {
			most := (last - 1 - clock) / prices[kind]
			m := begin(t, 3)
			wait(t, m, 2, clock, api.OK)
			charge(t, m, 2, kind, most, api.OK)
			want := [6]core{2: {clock: clock + most*prices[kind], idle: clock}}
			want[2].spent[kind] = most * prices[kind]
			holds(t, m, want, false)

			m = begin(t, 3)
			wait(t, m, 2, clock, api.OK)
			charge(t, m, 2, kind, most+1, api.ErrStop)
			want = [6]core{2: {clock: last, idle: clock}}
			want[2].spent[kind] = last - clock
			holds(t, m, want, true)
		}
	}
}

// P5.1, Charge: the clock and the cycles together may be beyond 64 bits, and so may the product, whatever it goes round to.
func TestChargeBeyond(t *testing.T) {
	for kind := 1; kind <= 8; kind++ {
		// The most times whose product is within 64 bits; of cost 1 there are no more times.
		round := math.MaxUint64 / prices[kind]
		for _, times := range []uint64{last, last + 1, 1 << 63, 1<<63 + 1, math.MaxUint64 - 1, math.MaxUint64, round - 1, round, max(round, round+1), max(round, round+2)} {
			for _, clock := range []uint64{0, 1, 20, last - 1} {
				m := begin(t, 1)
				wait(t, m, 0, clock, api.OK)
				charge(t, m, 0, kind, times, api.ErrStop)
				want := [6]core{0: {clock: last, idle: clock}}
				want[0].spent[kind] = last - clock
				holds(t, m, want, true)
			}
		}
	}
}

// P5.1, Charge: products that go round to 0, or to a few cycles, are beyond 64 bits all the same.
func TestChargeRound(t *testing.T) {
	for _, c := range []struct {
		kind  int
		times uint64
	}{
		{meter.CCopy, 1 << 58}, {meter.CCopy, 1<<58 + 1}, {meter.CCopy, 1 << 63}, {meter.CMem, 1 << 63}, {meter.CMem, 1<<63 + 1},
		{meter.CTrap, 1 << 62}, {meter.CCall, 1 << 61}, {meter.CSwitch, 1 << 63}, {meter.CIrq, 1 << 63}, {meter.CWalk, math.MaxUint64/3 + 1},
	} {
		m := begin(t, 1)
		charge(t, m, 0, meter.CIns, 5, api.OK)
		charge(t, m, 0, c.kind, c.times, api.ErrStop)
		want := [6]core{0: {clock: last, spent: [9]uint64{meter.CIns: 5}}}
		want[0].spent[c.kind] = last - 5
		holds(t, m, want, true)
	}
}

// P5.1 and P5.2: nothing changes any more once the meter is stopped, by a charge or a wait, of any core.
func TestStoppedForGood(t *testing.T) {
	stops := []func(*meter.Meter) api.Errno{
		func(m *meter.Meter) api.Errno { return m.Charge(1, meter.CCopy, last) },
		func(m *meter.Meter) api.Errno { return m.Wait(1, last) },
	}
	for i, stop := range stops {
		m := begin(t, 4)
		charge(t, m, 0, meter.CIrq, 4, api.OK)
		wait(t, m, 2, 1000, api.OK)
		if e := stop(m); e != api.ErrStop || !m.Stopped() {
			t.Fatalf("%d: %v", i, e)
		}
		same(t, m, func() {
			for n := range 4 {
				for kind := 1; kind <= 8; kind++ {
					for _, times := range []uint64{0, 1, last, math.MaxUint64} {
						charge(t, m, n, kind, times, api.ErrStop)
					}
				}
				for _, until := range []uint64{0, 1, 120, 1000, 1001, last - 1, last, last + 1, math.MaxUint64} {
					wait(t, m, n, until, api.ErrStop)
				}
			}
		})
	}
}

// P5.2, Wait: no such core is ErrRange, of a stopped meter too, and changes nothing.
func TestWaitRange(t *testing.T) {
	for _, cores := range []int{1, 3, 4} {
		m := begin(t, cores)
		charge(t, m, 0, meter.CWalk, 3, api.OK)
		for range 2 {
			same(t, m, func() {
				for _, n := range noCores(cores) {
					for _, until := range []uint64{0, 1, 9, 10, last, math.MaxUint64} {
						wait(t, m, n, until, api.ErrRange)
					}
				}
			})
			m.Charge(0, meter.CIns, last)
		}
	}
}

// P5.2, Wait: to a time that is past, or to the clock itself, is nothing; beyond it, what the clock goes on by is idle.
func TestWait(t *testing.T) {
	m := begin(t, 3)
	charge(t, m, 1, meter.CSwitch, 2, api.OK)
	same(t, m, func() {
		for _, until := range []uint64{0, 1, 50, 99, 100} {
			wait(t, m, 1, until, api.OK)
		}
	})
	want := [6]core{1: {clock: 100, spent: [9]uint64{meter.CSwitch: 100}}}
	for _, until := range []uint64{101, 101, 100, 250, 1 << 40, 1<<40 - 1, last - 1, last - 1} {
		wait(t, m, 1, until, api.OK)
		if until > want[1].clock {
			want[1].idle += until - want[1].clock
			want[1].clock = until
		}
		holds(t, m, want, false)
	}
	wait(t, m, 0, 7, api.OK)
	want[0] = core{clock: 7, idle: 7}
	holds(t, m, want, false)
}

// P5.2, Wait: to LastClock or beyond, the clock goes on to LastClock, and the meter is stopped.
func TestWaitToLast(t *testing.T) {
	for _, until := range []uint64{last, last + 1, 1<<63 - 1, 1 << 63, 1<<63 + 40, math.MaxUint64 - 1, math.MaxUint64} {
		for _, clock := range []uint64{0, 1, 40, last - 2, last - 1} {
			m := begin(t, 2)
			charge(t, m, 0, meter.CIns, clock, api.OK)
			wait(t, m, 0, until, api.ErrStop)
			holds(t, m, [6]core{0: {clock: last, idle: last - clock, spent: [9]uint64{meter.CIns: clock}}}, true)
		}
	}
}

// P5.2: Clock, Spent and Idle of cores and kinds that there aren't are 0, of a meter that has run and of one that is stopped.
func TestTellsNone(t *testing.T) {
	for _, cores := range []int{1, 4} {
		m := begin(t, cores)
		for n := range cores {
			for kind := 1; kind <= 8; kind++ {
				charge(t, m, n, kind, 3, api.OK)
			}
			wait(t, m, n, 5000, api.OK)
		}
		for range 2 {
			for _, n := range noCores(cores) {
				if m.Clock(n) != 0 || m.Idle(n) != 0 || m.Spent(n, meter.CIns) != 0 || m.Spent(n, 0) != 0 || m.Spent(n, -1) != 0 {
					t.Errorf("core %d of %d: %d %d %d", n, cores, m.Clock(n), m.Idle(n), m.Spent(n, meter.CIns))
				}
			}
			for _, kind := range noKinds {
				if x := m.Spent(0, kind); x != 0 {
					t.Errorf("Spent(0, %d): %d", kind, x)
				}
			}
			m.Wait(0, last)
		}
	}
}

// P5.3, Stopped: only when a clock is LastClock, by whichever core and call.
func TestStopped(t *testing.T) {
	for n := range 4 {
		m, o := begin(t, 4), begin(t, 4)
		charge(t, m, n, meter.CIns, last-1, api.OK)
		wait(t, o, n, last-1, api.OK)
		charge(t, m, 9, meter.CIns, last, api.ErrRange)
		wait(t, o, 9, last, api.ErrRange)
		if m.Stopped() || o.Stopped() {
			t.Errorf("core %d: stopped ahead of LastClock", n)
		}
		charge(t, m, n, meter.CIns, 1, api.ErrStop)
		wait(t, o, n, last, api.ErrStop)
		if !m.Stopped() || !o.Stopped() {
			t.Errorf("core %d: not stopped at LastClock", n)
		}
	}
}

// clocks: a meter with these clocks.
func clocks(t *testing.T, list ...uint64) *meter.Meter {
	t.Helper()
	m := begin(t, len(list))
	for n, c := range list {
		wait(t, m, n, c, api.OK)
	}
	return m
}

// P5.3, Least: -1 without a core that is told: of an empty list, of one that tells none, and of one that tells only cores that there aren't.
func TestLeastNone(t *testing.T) {
	for _, list := range [][]uint64{{0}, {5, 3}, {0, 0, 0}, {4, 3, 2, 1}} {
		m := clocks(t, list...)
		beyond := append(make([]bool, len(list)), true, true, true)
		for i, which := range [][]bool{nil, {}, {false}, make([]bool, 2), make([]bool, 4), make([]bool, 300), beyond} {
			if n := m.Least(which); n != -1 {
				t.Errorf("Least %d of %v: %d", i, list, n)
			}
		}
	}
}

// P5.3, Least: the least clock, the first of several, of lists that are shorter than the cores, as long, and longer.
func TestLeast(t *testing.T) {
	const y, n = true, false
	for i, c := range []struct {
		clocks []uint64
		which  []bool
		want   int
	}{
		{[]uint64{0}, []bool{y}, 0},
		{[]uint64{9}, []bool{y, y, y, y, y}, 0},
		{[]uint64{4, 3, 2, 1}, []bool{y, y, y, y}, 3},
		{[]uint64{4, 3, 2, 1}, []bool{y, y, y}, 2},
		{[]uint64{4, 3, 2, 1}, []bool{y}, 0},
		{[]uint64{4, 3, 2, 1}, []bool{n, y}, 1},
		{[]uint64{4, 3, 2, 1}, []bool{y, y, y, n}, 2},
		{[]uint64{4, 3, 2, 1}, []bool{n, n, n, y, y, y, y, y}, 3},
		{[]uint64{1, 2, 3, 4}, []bool{y, y, y, y}, 0},
		{[]uint64{1, 2, 3, 4}, []bool{n, n, y, y}, 2},
		{[]uint64{7, 5, 5, 5}, []bool{y, y, y, y}, 1},
		{[]uint64{7, 5, 5, 5}, []bool{y, n, y, y}, 2},
		{[]uint64{7, 5, 5, 5}, []bool{y, n, n, n}, 0},
		{[]uint64{0, 0, 0, 0}, []bool{y, y, y, y}, 0},
		{[]uint64{0, 0, 0, 0}, []bool{n, n, n, y}, 3},
		{[]uint64{3, 0}, []bool{y, y, y, y, y, y}, 1},
		{[]uint64{3, 0}, []bool{y, n, y, y, y, y}, 0},
		{[]uint64{last - 1, last - 2, last - 1}, []bool{y, y, y}, 1},
		{[]uint64{last - 1, last - 1}, []bool{n, y}, 1},
	} {
		if got := clocks(t, c.clocks...).Least(c.which); got != c.want {
			t.Errorf("%d: %d, not %d", i, got, c.want)
		}
	}
}

// P5.3, Least: it goes by the clocks as they are, by what was spent as by what was idle, and of a stopped meter too.
func TestLeastByClocks(t *testing.T) {
	m := begin(t, 3)
	all := []bool{true, true, true}
	for i, step := range []struct {
		core, want int
		spends     bool
	}{{0, 1, true}, {1, 2, false}, {2, 0, true}, {0, 1, false}, {1, 2, true}, {2, 0, false}} {
		if step.spends {
			charge(t, m, step.core, meter.CTrap, 1, api.OK)
		} else {
			wait(t, m, step.core, m.Clock(step.core)+20, api.OK)
		}
		if n := m.Least(all); n != step.want {
			t.Errorf("%d: %d, not %d", i, n, step.want)
		}
	}
	charge(t, m, 0, meter.CIns, last, api.ErrStop)
	if m.Least(all) != 1 || m.Least([]bool{true}) != 0 || m.Least([]bool{true, false, true}) != 2 || m.Least(nil) != -1 {
		t.Error("of a stopped meter")
	}
}

// P5.3, Least: the list, and what lies behind its length, stays as it was, and what lies there isn't asked; the meter stays, too, and keeps nothing of the list.
func TestLeastMemory(t *testing.T) {
	m := clocks(t, 5, 4, 3, 2)
	for _, size := range []int{0, 1, 2, 4, 6, 8} {
		memory := []bool{true, true, false, true, false, true, true, false, true}
		before := slices.Clone(memory)
		var first int
		same(t, m, func() { first = m.Least(memory[:size]) })
		if !slices.Equal(memory, before) {
			t.Fatalf("a list of %d is changed", size)
		}
		want := []int{-1, 0, 1, 1, 3, 3, 3, 3, 3}[size]
		if first != want {
			t.Errorf("a list of %d: %d, not %d", size, first, want)
		}
		clear(memory)
		if n := m.Least(before[:size]); n != want {
			t.Errorf("a list of %d is kept", size)
		}
	}
}

// model is a meter of unbounded numbers, as the chapter tells it.
type model struct {
	clock, idle []*big.Int
	spent       [][9]*big.Int
	stopped     bool
}

// newModel: a model of so many cores.
func newModel(cores int) *model {
	o := &model{}
	for range cores {
		o.clock = append(o.clock, new(big.Int))
		o.idle = append(o.idle, new(big.Int))
		var row [9]*big.Int
		for k := range row {
			row[k] = new(big.Int)
		}
		o.spent = append(o.spent, row)
	}
	return o
}

// goOn: a core's clock goes on to a time, and a sum by as much; at LastClock it is the end.
func (o *model) goOn(n int, to, sum *big.Int) api.Errno {
	end := new(big.Int).SetUint64(last)
	if to.Cmp(end) >= 0 {
		to = end
		o.stopped = true
	}
	sum.Add(sum, new(big.Int).Sub(to, o.clock[n]))
	o.clock[n].Set(to)
	if o.stopped {
		return api.ErrStop
	}
	return api.OK
}

// charge: what Charge answers.
func (o *model) charge(n, kind int, times uint64) api.Errno {
	if n < 0 || n >= len(o.clock) || kind < 1 || kind > 8 {
		return api.ErrRange
	}
	if o.stopped {
		return api.ErrStop
	}
	by := new(big.Int).SetUint64(times)
	by.Mul(by, new(big.Int).SetUint64(prices[kind]))
	return o.goOn(n, by.Add(by, o.clock[n]), o.spent[n][kind])
}

// wait: what Wait answers.
func (o *model) wait(n int, until uint64) api.Errno {
	if n < 0 || n >= len(o.clock) {
		return api.ErrRange
	}
	if o.stopped {
		return api.ErrStop
	}
	to := new(big.Int).SetUint64(until)
	if o.clock[n].Cmp(to) >= 0 {
		return api.OK
	}
	return o.goOn(n, to, o.idle[n])
}

// least: what Least answers.
func (o *model) least(which []bool) int {
	best := -1
	for n := len(o.clock) - 1; n >= 0; n-- {
		if n < len(which) && which[n] && (best < 0 || o.clock[n].Cmp(o.clock[best]) <= 0) {
			best = n
		}
	}
	return best
}

// told: all that the model tells.
func (o *model) told() [6]core {
	var all [6]core
	for n := range o.clock {
		all[n].clock, all[n].idle = o.clock[n].Uint64(), o.idle[n].Uint64()
		for k, x := range o.spent[n] {
			all[n].spent[k] = x.Uint64()
		}
	}
	return all
}

// P5.1 to P5.3: long rows of calls of all kinds do what they do to the model.
func TestRows(t *testing.T) {
	state := uint64(1)
	next := func() uint64 {
		state = state*6364136223846793005 + 1442695040888963407
		return state >> 33
	}
	ends := 0
	for row := range 600 {
		cores := 1 + row%4
		m, o := begin(t, cores), newModel(cores)
		for range 60 {
			n, kind := int(next()%6)-1, int(next()%11)-1
			amount := (next()<<33 ^ next()<<2) >> (next()%60 + uint64(row%4))
			which := make([]bool, next()%7)
			for i := range which {
				which[i] = next()%2 == 0
			}
			if next()%2 == 0 {
				charge(t, m, n, kind, amount, o.charge(n, kind, amount))
			} else {
				wait(t, m, n, amount, o.wait(n, amount))
			}
			holds(t, m, o.told(), o.stopped)
			if got, want := m.Least(which), o.least(which); got != want {
				t.Fatalf("Least(%v): %d, not %d", which, got, want)
			}
		}
		if o.stopped {
			ends++
		}
	}
	// Rows that go on to their last call are as needful here as those that stop.
	if ends < 100 || ends > 500 {
		t.Errorf("%d rows of 600 end at LastClock", ends)
	}
}
