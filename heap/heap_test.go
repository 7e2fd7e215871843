package heap_test

import (
	"math"
	"slices"
	"testing"

	"warder/api"
)

// most is the greatest key.
const most uint64 = math.MaxUint64

// keys: the ends of all keys and of narrower kinds of numbers, and those next to them.
func keys() []uint64 {
	return []uint64{0, 1, 2, 255, 256, math.MaxInt32, 1 << 31, math.MaxUint32, 1 << 32, 1<<53 + 1, math.MaxInt64, 1 << 63, 1<<63 + 1, most - 1, most}
}

// shapes: keys for 64 numbers, that run with the numbers, against them and across them, and such as many numbers have.
func shapes() map[string]func(id int) uint64 {
	return map[string]func(id int) uint64{
		"rising":  func(id int) uint64 { return uint64(id) },
		"falling": func(id int) uint64 { return uint64(63 - id) },
		"equal":   func(int) uint64 { return 7 },
		"noughts": func(int) uint64 { return 0 },
		"most":    func(int) uint64 { return most },
		"across":  func(id int) uint64 { return uint64(id*37+11) % 64 },
		"pairs":   func(id int) uint64 { return uint64(63-id) / 2 },
		"few":     func(id int) uint64 { return uint64(id*29) % 5 },
		"ends":    func(id int) uint64 { return keys()[id*7%len(keys())] },
		"high":    func(id int) uint64 { return uint64(id*21) << 58 },
	}
}

// pushes pushes items, of whose numbers there are none yet.
func (p *pair) pushes(items ...item) {
	p.t.Helper()
	for _, it := range items {
		if e := p.push(it.id, it.key); e != api.OK {
			p.t.Fatalf("Push(%d, %d): %v", it.id, it.key, e)
		}
	}
	p.same()
}

// noPush holds that an item isn't pushed, with this error, and that nothing changes.
func (p *pair) noPush(id int, key uint64, want api.Errno) {
	p.t.Helper()
	if e := p.push(id, key); e != want {
		p.t.Fatalf("Push(%d, %d): %v, not %v", id, key, e, want)
	}
	p.same()
}

// changes changes the key of a number that has an item, and holds it.
func (p *pair) changes(id int, key uint64) {
	p.t.Helper()
	if e := p.change(id, key); e != api.OK {
		p.t.Fatalf("Change(%d, %d): %v", id, key, e)
	}
	p.holds(id, key)
	p.same()
}

// noChange likewise holds that no key changes.
func (p *pair) noChange(id int, key uint64, want api.Errno) {
	p.t.Helper()
	if e := p.change(id, key); e != want {
		p.t.Fatalf("Change(%d, %d): %v, not %v", id, key, e, want)
	}
	p.same()
}

// removes removes a number's item that there is, and holds that it is gone.
func (p *pair) removes(id int) {
	p.t.Helper()
	many := p.h.Len()
	if !p.remove(id) {
		p.t.Fatalf("Remove(%d): false", id)
	}
	p.lacks(id)
	if n := p.h.Len(); n != many-1 {
		p.t.Fatalf("Len behind Remove(%d): %d, and %d ahead of it", id, n, many)
	}
	p.same()
}

// noRemove holds that there is nothing to remove, and that nothing changes.
func (p *pair) noRemove(ids ...int) {
	p.t.Helper()
	for _, id := range ids {
		if p.remove(id) {
			p.t.Fatalf("Remove(%d): true", id)
		}
	}
	p.same()
}

// first holds the first item, which stays.
func (p *pair) first(id int, key uint64) {
	p.t.Helper()
	for range 2 {
		if got, k, ok := p.h.Min(); got != id || k != key || !ok {
			p.t.Fatalf("Min: %d %d %v, not %d %d", got, k, ok, id, key)
		}
	}
	p.same()
}

// pops holds the first items, which are popped.
func (p *pair) pops(items ...item) {
	p.t.Helper()
	for _, it := range items {
		if id, key, ok := p.pop(); id != it.id || key != it.key || !ok {
			p.t.Fatalf("Pop: %d %d %v, not %v", id, key, ok, it)
		}
		p.lacks(it.id)
		p.same()
	}
}

// lists holds all numbers in order.
func (p *pair) lists(want ...int) {
	p.t.Helper()
	if ids := p.h.List(); !slices.Equal(ids, want) {
		p.t.Fatalf("List: %v, not %v", ids, want)
	}
	if n := p.h.Len(); n != len(want) {
		p.t.Fatalf("Len: %d, not %d", n, len(want))
	}
	p.same()
}

// none holds that there are no items, and that there is nothing to pop.
func (p *pair) none() {
	p.t.Helper()
	for range 2 {
		if id, key, ok := p.h.Min(); id != -1 || key != 0 || ok {
			p.t.Fatalf("Min: %d %d %v", id, key, ok)
		}
		if id, key, ok := p.pop(); id != -1 || key != 0 || ok {
			p.t.Fatalf("Pop: %d %d %v", id, key, ok)
		}
		if n, ids := p.h.Len(), p.h.List(); n != 0 || len(ids) != 0 {
			p.t.Fatalf("Len %d, List %v", n, ids)
		}
	}
	for id := range 64 {
		p.lacks(id)
	}
	p.same()
}

// holds holds a number's key.
func (p *pair) holds(id int, want uint64) {
	p.t.Helper()
	if key, ok := p.h.Key(id); key != want || !ok {
		p.t.Fatalf("Key(%d): %d %v, not %d", id, key, ok, want)
	}
}

// lacks holds that numbers have no item.
func (p *pair) lacks(ids ...int) {
	p.t.Helper()
	for _, id := range ids {
		if key, ok := p.h.Key(id); key != 0 || ok {
			p.t.Fatalf("Key(%d): %d %v", id, key, ok)
		}
		if slices.Contains(p.h.List(), id) {
			p.t.Fatalf("List has %d", id)
		}
	}
}

// drain pops all there is, and holds that it came in order.
func (p *pair) drain() {
	p.t.Helper()
	var last item
	for i := 0; ; i++ {
		id, key, ok := p.pop()
		if !ok {
			break
		}
		if i > 0 && (key < last.key || key == last.key && id <= last.id) {
			p.t.Fatalf("Pop: %d %d behind %v", id, key, last)
		}
		last = item{id, key}
		p.brief()
	}
	p.none()
}

// fill: a pair with so many items, the numbers from 0 on in mixed order.
func fill(t *testing.T, many int, key func(id int) uint64) *pair {
	t.Helper()
	p := open(t)
	for i := range 64 {
		if id := i * 23 % 64; id < many {
			p.push(id, key(id))
		}
	}
	p.same()
	return p
}

// orders: so many numbers, in each order that there is.
func orders(many int) [][]int {
	if many == 0 {
		return [][]int{nil}
	}
	var all [][]int
	for _, row := range orders(many - 1) {
		for place := range many {
			all = append(all, slices.Insert(slices.Clone(row), place, many-1))
		}
	}
	return all
}

// The chapter's example.
func TestExample(t *testing.T) {
	p := open(t)
	p.pushes(item{1, 9}, item{2, 3})
	p.changes(1, 2)
	p.pops(item{1, 2})
	p.lists(2)
}

// P15.1, New: a heap without items, of which nothing can be asked or taken.
func TestNew(t *testing.T) {
	p := open(t)
	p.none()
	for id := range 64 {
		p.noChange(id, 5, api.ErrNone)
		p.noRemove(id)
	}
	p.noChange(-1, 5, api.ErrRange)
	p.noRemove(-1, 64)
	p.none()
}

// P15.1, New: two heaps that know nothing of each other.
func TestTwoHeaps(t *testing.T) {
	a, b := open(t), open(t)
	a.pushes(item{1, 12}, item{2, 9}, item{0, 40})
	b.none()
	b.pushes(item{1, 500}, item{3, 2})
	a.holds(1, 12)
	a.same()
	a.changes(1, 1)
	b.holds(1, 500)
	b.first(3, 2)
	b.removes(1)
	a.first(1, 1)
	b.pops(item{3, 2})
	a.lists(1, 2, 0)
	a.drain()
	b.pushes(item{2, 6})
	a.none()
	c := open(t)
	c.none()
	b.lists(2)
}

// P15.1, Push: each number at each of the keys next to the ends.
func TestPush(t *testing.T) {
	for id := range 64 {
		for _, key := range keys() {
			p := open(t)
			p.pushes(item{id, key})
			p.holds(id, key)
			p.first(id, key)
			p.lists(id)
			p.pops(item{id, key})
			p.none()
		}
	}
}

// P15.1, Push: numbers out of bounds, of an empty heap, of one with items and of a full one.
func TestPushRange(t *testing.T) {
	p := open(t)
	for _, upTo := range []int{0, 6, 64} {
		for id := len(p.m); id < upTo; id++ {
			p.push(id, uint64(1000-id))
		}
		for _, id := range noNumbers() {
			for _, key := range []uint64{0, 1, 995, most} {
				p.noPush(id, key, api.ErrRange)
			}
		}
	}
	p.drain()
}

// P15.1, Push: of a number of which there is an item, the elder key stays; and ErrRange is ahead of ErrThere.
func TestPushThere(t *testing.T) {
	for _, elder := range []uint64{0, 1, 50, most - 1, most} {
		for _, id := range []int{0, 5, 31, 63} {
			p := open(t)
			p.pushes(item{id, elder}, item{6, 49}, item{7, 50})
			for _, key := range append(keys(), elder) {
				p.noPush(id, key, api.ErrThere)
				p.holds(id, elder)
				for _, by := range []int{64, -64, 128, 256, 1 << 32, math.MinInt} {
					p.noPush(id+by, key, api.ErrRange)
				}
			}
			p.drain()
		}
	}
}

// P15.1 and P15.2: all 64 numbers at once, pushed in several orders, with keys of all shapes.
func TestPushAll(t *testing.T) {
	for name, key := range shapes() {
		for _, turn := range []int{1, 63, 37, 5} {
			p := open(t)
			for i := range 64 {
				id := (i*turn + turn/2) % 64
				p.pushes(item{id, key(id)})
				if p.h.Len() != i+1 {
					t.Fatal(name, p.h.Len())
				}
			}
			for id := range 64 {
				p.holds(id, key(id))
				p.noPush(id, 3, api.ErrThere)
			}
			p.noPush(64, 3, api.ErrRange)
			p.noPush(-1, 3, api.ErrRange)
			p.drain()
		}
	}
}

// P15.1 and P15.2: all 64 numbers, in orders that are written out.
func TestOrder(t *testing.T) {
	rising := make([]int, 64)
	for i := range rising {
		rising[i] = i
	}
	falling := slices.Clone(rising)
	slices.Reverse(falling)
	for name, want := range map[string][]int{"rising": rising, "falling": falling, "equal": rising, "noughts": rising, "most": rising} {
		p := fill(t, 64, shapes()[name])
		p.lists(want...)
		for i, id := range want {
			if got, key, ok := p.pop(); got != id || key != shapes()[name](id) || !ok {
				t.Fatal(name, i, got, key, ok)
			}
			p.lists(want[i+1:]...)
		}
		p.none()
	}
}

// P15.1, Change: numbers out of bounds, of an empty heap and of one with items.
func TestChangeRange(t *testing.T) {
	p := open(t)
	for range 2 {
		for _, id := range noNumbers() {
			for _, key := range []uint64{0, 5, most} {
				p.noChange(id, key, api.ErrRange)
			}
		}
		for _, id := range []int{0, 5, 63} {
			p.push(id, uint64(id)+3)
		}
	}
	p.lists(0, 5, 63)
}

// P15.1, Change: of a number of which there is none, there is none behind it.
func TestChangeNone(t *testing.T) {
	p := open(t)
	p.pushes(item{4, 40}, item{6, 60}, item{9, 1})
	p.removes(6)
	p.pops(item{9, 1})
	for id := range 64 {
		if id == 4 {
			continue
		}
		for _, key := range []uint64{0, 40, 41, most} {
			p.noChange(id, key, api.ErrNone)
			p.lacks(id)
		}
		p.noRemove(id)
	}
	p.lists(4)
}

// P15.1, Change: to a lesser key, a greater one and the same one, of the first item, the last one and one between.
func TestChange(t *testing.T) {
	items := []item{{10, 10}, {20, 20}, {30, 30}, {40, 40}, {50, 50}}
	for _, c := range []struct {
		id   int
		key  uint64
		want []int
	}{
		{10, 0, []int{10, 20, 30, 40, 50}}, {10, 9, []int{10, 20, 30, 40, 50}}, {10, 10, []int{10, 20, 30, 40, 50}},
		{10, 20, []int{10, 20, 30, 40, 50}}, {10, 21, []int{20, 10, 30, 40, 50}}, {10, 35, []int{20, 30, 10, 40, 50}},
		{10, 50, []int{20, 30, 40, 10, 50}}, {10, 51, []int{20, 30, 40, 50, 10}}, {10, most, []int{20, 30, 40, 50, 10}},
		{30, 0, []int{30, 10, 20, 40, 50}}, {30, 9, []int{30, 10, 20, 40, 50}}, {30, 10, []int{10, 30, 20, 40, 50}},
		{30, 19, []int{10, 30, 20, 40, 50}}, {30, 20, []int{10, 20, 30, 40, 50}}, {30, 30, []int{10, 20, 30, 40, 50}},
		{30, 40, []int{10, 20, 30, 40, 50}}, {30, 41, []int{10, 20, 40, 30, 50}}, {30, most, []int{10, 20, 40, 50, 30}},
		{50, 0, []int{50, 10, 20, 30, 40}}, {50, 10, []int{10, 50, 20, 30, 40}}, {50, 40, []int{10, 20, 30, 40, 50}},
		{50, 39, []int{10, 20, 30, 50, 40}}, {50, 50, []int{10, 20, 30, 40, 50}}, {50, most, []int{10, 20, 30, 40, 50}},
	} {
		for _, order := range orders(len(items)) {
			p := open(t)
			for _, i := range order {
				p.push(items[i].id, items[i].key)
			}
			p.changes(c.id, c.key)
			p.lists(c.want...)
			p.first(c.want[0], p.m[0].key)
			p.drain()
		}
	}
}

// P15.1, Change: each item of heaps of many lengths, to each place that there is.
func TestChangePlaces(t *testing.T) {
	for _, many := range []int{1, 2, 3, 4, 7, 8, 12, 31, 64} {
		for name, key := range shapes() {
			p := fill(t, many, func(id int) uint64 { return key(id) / 2 &^ 1 })
			for id := range many {
				was, _ := p.h.Key(id)
				for _, other := range slices.Clone(p.m) {
					for _, to := range []uint64{other.key - min(other.key, 1), other.key, other.key + 1} {
						if e := p.change(id, to); e != api.OK {
							t.Fatal(name, id, to, e)
						}
						p.brief()
					}
				}
				p.changes(id, 0)
				p.changes(id, most)
				p.changes(id, was)
			}
			p.drain()
		}
	}
}

// P15.1, Change: the only item.
func TestChangeOnly(t *testing.T) {
	p := open(t)
	p.pushes(item{63, 8})
	for _, key := range keys() {
		p.changes(63, key)
		p.first(63, key)
		p.changes(63, key)
		p.lists(63)
	}
	p.pops(item{63, most})
	p.noChange(63, 4, api.ErrNone)
	p.none()
}

// P15.1, Remove: each item of heaps of all lengths: the first one, the last one and those between; and twice.
func TestRemove(t *testing.T) {
	for _, many := range []int{1, 2, 3, 4, 5, 6, 7, 8, 15, 16, 17, 40, 64} {
		for _, key := range shapes() {
			for gone := range many {
				p := fill(t, many, key)
				p.removes(gone)
				p.noRemove(gone, gone)
				for range many - 1 {
					if id, _, ok := p.pop(); id == gone || !ok {
						t.Fatal(many, gone, id, ok)
					}
				}
				p.none()
				p.noRemove(gone)
			}
		}
	}
}

// P15.1, Remove: all, in many orders, until there is none.
func TestRemoveAll(t *testing.T) {
	for _, key := range shapes() {
		for _, turn := range []int{1, 63, 37, 11} {
			p := fill(t, 64, key)
			for i := range 64 {
				p.removes((i*turn + turn/3) % 64)
			}
			p.none()
		}
	}
	for _, last := range []bool{false, true} {
		p := fill(t, 64, shapes()["few"])
		for len(p.m) > 0 {
			if last {
				p.removes(p.m[len(p.m)-1].id)
			} else {
				p.removes(p.m[0].id)
			}
		}
		p.none()
	}
}

// P15.1, Remove: of numbers without an item, and of what is no number, of an empty heap and of one with items.
func TestRemoveNone(t *testing.T) {
	p := open(t)
	p.noRemove(0, 1, 5, 63)
	p.noRemove(noNumbers()...)
	p.pushes(item{0, 5}, item{5, 0}, item{63, 9})
	p.noRemove(1, 4, 6, 62)
	p.noRemove(noNumbers()...)
	p.lists(5, 0, 63)
	q := fill(t, 64, shapes()["equal"])
	q.noRemove(noNumbers()...)
	q.drain()
}

// P15.1: a number that was removed or popped may be pushed again, with another key.
func TestAgain(t *testing.T) {
	p := open(t)
	p.pushes(item{1, 10}, item{2, 20}, item{3, 30})
	p.removes(2)
	p.pushes(item{2, 5})
	p.first(2, 5)
	p.noPush(2, 6, api.ErrThere)
	p.pops(item{2, 5})
	p.noChange(2, 7, api.ErrNone)
	p.pushes(item{2, most})
	p.lists(1, 3, 2)
	p.pops(item{1, 10})
	p.pushes(item{1, 31})
	p.lists(3, 1, 2)
	p.removes(3)
	p.removes(1)
	p.removes(2)
	p.none()
	p.pushes(item{1, 1}, item{3, 0})
	p.lists(3, 1)
	for round := range uint64(4) {
		q := fill(t, 64, shapes()["across"])
		for id := range 64 {
			q.removes(id)
			q.pushes(item{id, uint64(id)*round*19%64 + round})
		}
		for range 64 {
			id, key, _ := q.pop()
			if key < 1000 {
				q.pushes(item{id, key + 1000 - round*uint64(id)})
			}
		}
		q.drain()
	}
}

// P15.1 and P15.2: few numbers, pushed in each order that there is, popped, or one removed or changed ahead of it.
func TestOrders(t *testing.T) {
	for _, key := range []func(id int) uint64{shapes()["rising"], shapes()["falling"], shapes()["equal"], func(id int) uint64 { return uint64(id) / 2 }} {
		for _, order := range orders(6) {
			for what := range 13 {
				p := open(t)
				for _, id := range order {
					p.push(id, key(id))
				}
				switch {
				case what < 6:
					p.remove(what)
				case what < 12:
					p.change(what-6, key(order[0]))
				}
				p.brief()
				for range 6 {
					p.pop()
				}
				p.brief()
			}
		}
	}
}

// P15.2, Min and Pop: with numbers and keys that run against each other, until the heap has none and once more.
func TestMinPop(t *testing.T) {
	p := open(t)
	for _, it := range []item{{0, most}, {1, most - 1}, {2, 1 << 63}, {3, 1<<63 - 1}, {4, 1 << 32}, {5, 1 << 31}, {6, 2}, {7, 1}, {8, 0}} {
		p.pushes(it)
		p.first(it.id, it.key)
	}
	p.lists(8, 7, 6, 5, 4, 3, 2, 1, 0)
	p.pops(item{8, 0}, item{7, 1}, item{6, 2})
	p.first(5, 1<<31)
	p.pops(item{5, 1 << 31}, item{4, 1 << 32}, item{3, 1<<63 - 1}, item{2, 1 << 63}, item{1, most - 1})
	p.first(0, most)
	p.pops(item{0, most})
	p.none()
	p.pushes(item{0, most})
	p.pops(item{0, most})
	p.none()
}

// P15.2, Min and Pop: of many items of one key the lesser number first.
func TestOneKey(t *testing.T) {
	for _, key := range keys() {
		p := open(t)
		for _, id := range []int{31, 63, 7, 40, 1, 62, 0, 15, 16} {
			p.pushes(item{id, key})
		}
		p.lists(0, 1, 7, 15, 16, 31, 40, 62, 63)
		p.pops(item{0, key}, item{1, key})
		p.removes(15)
		p.pushes(item{2, key}, item{17, key})
		p.changes(62, key)
		p.lists(2, 7, 16, 17, 31, 40, 62, 63)
		p.pops(item{2, key}, item{7, key}, item{16, key}, item{17, key}, item{31, key}, item{40, key}, item{62, key}, item{63, key})
		p.none()
	}
}

// P15.2, Min, Key, Len and List: they change nothing, however often they are asked.
func TestAskedOften(t *testing.T) {
	p := fill(t, 40, shapes()["few"])
	for range 100 {
		p.same()
	}
	p.drain()
}

// P15.2, Key: of each number that has an item and of each that has none.
func TestKey(t *testing.T) {
	p := open(t)
	p.pushes(item{0, 9}, item{63, 0}, item{5, most})
	p.holds(0, 9)
	p.holds(63, 0)
	p.holds(5, most)
	p.lacks(1, 4, 6, 62)
	p.lacks(noNumbers()...)
	p.pops(item{63, 0})
	p.lacks(63)
	p.changes(0, 0)
	p.holds(0, 0)
	p.removes(5)
	p.lacks(5)
	p.lists(0)
}

// spoil overwrites a list, its spare room too.
func spoil(list []int) {
	list = list[:cap(list)]
	for i := range list {
		list[i] = 77
	}
}

// P15.2: what List answers, changed or appended to, changes nothing of the heap nor of another answer.
func TestAnswers(t *testing.T) {
	for _, many := range []int{0, 1, 2, 3, 5, 8, 20, 63, 64} {
		p := fill(t, many, shapes()["across"])
		want := p.m.ids()
		kept := p.h.List()
		spoiled := p.h.List()
		spoil(append(spoiled, 5))
		spoil(spoiled)
		slices.Reverse(spoiled)
		if !slices.Equal(kept, want) {
			t.Fatal(many, kept)
		}
		p.same()
		spoil(append(kept, 6))
		spoil(kept)
		p.same()
		p.drain()
	}
}

// P15.2: what List answers is changed by nothing that is done to the heap afterwards.
func TestAnswersStay(t *testing.T) {
	p := open(t)
	var answers, kept [][]int
	keep := func() {
		list := p.h.List()
		answers = append(answers, list)
		kept = append(kept, slices.Clone(list))
	}
	for i := range 64 {
		p.push(i*37%64, uint64(i*11%16))
		keep()
	}
	for i := range 64 {
		p.change(i*5%64, uint64(i*7%50))
		keep()
	}
	for i := range 32 {
		p.remove(i * 2)
		keep()
	}
	for range 33 {
		p.pop()
		keep()
	}
	p.push(3, 3)
	for i, list := range answers {
		if !slices.Equal(list, kept[i]) {
			t.Fatal(i, list, kept[i])
		}
		spoil(list)
		spoil(append(list, 5))
	}
	p.lists(3)
}

// P1: no call panics, at all arguments.
func TestAllArguments(t *testing.T) {
	ids := append([]int{0, 1, 5, 31, 32, 62, 63}, noNumbers()...)
	p := open(t)
	for i, id := range ids {
		for j, key := range keys() {
			p.push(id, key)
			p.change(ids[(i+j)%len(ids)], key)
			p.push(ids[(i*3+j)%len(ids)], key)
			p.remove(ids[(i*5+j*2)%len(ids)])
			if j%4 == 0 {
				p.pop()
			}
			p.brief()
		}
		p.same()
	}
	p.drain()
}

// row: numbers that look mixed, the same for the same seed.
func row(seed uint64) func() uint64 {
	return func() uint64 {
		seed = seed*6364136223846793005 + 1442695040888963407
		return seed>>31 ^ seed<<17
	}
}

// step does one mixed call; the higher pull is, the more of them remove.
func (p *pair) step(next func() uint64, ids, bits int, pull uint64) {
	p.t.Helper()
	id := int(next() % uint64(ids))
	key := next() >> (64 - bits)
	switch what := next() % 16; {
	case what < pull:
		p.remove(id)
	case what < pull+2:
		p.pop()
	case what < pull+5:
		p.change(id, key)
	case what == 15:
		others := noNumbers()
		p.noPush(others[id%len(others)], key, api.ErrRange)
		p.noChange(others[id%len(others)], key, api.ErrRange)
		p.noRemove(others[id%len(others)])
	default:
		p.push(id, key)
	}
	p.brief()
}

// P15.1 and P15.2: rows of mixed calls against the model, of few numbers and of all, with few keys and with many.
func TestRows(t *testing.T) {
	for i, ids := range []int{1, 2, 3, 8, 20, 64} {
		for _, bits := range []int{0, 1, 2, 4, 6, 10, 63, 64} {
			for _, pull := range []uint64{1, 3, 8} {
				next := row(uint64(i*1000+bits*10) + pull)
				p := open(t)
				for i := range 800 {
					p.step(next, ids, bits, pull)
					if i%20 == 0 {
						p.same()
					}
				}
				p.same()
				p.drain()
			}
		}
	}
}
