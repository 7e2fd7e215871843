package frames_test

import (
	"math"
	"slices"
	"testing"

	"warder/api"
	"warder/frames"
)

// begin: a table of so many frames.
func begin(t *testing.T, many int) *frames.Table {
	t.Helper()
	x, e := frames.New(many)
	if e != api.OK || x == nil {
		t.Fatalf("New(%d): %v", many, e)
	}
	return x
}

// laid: a table in which each frame is the owner's that stands at its number.
func laid(t *testing.T, owners []int) *frames.Table {
	t.Helper()
	x := begin(t, len(owners))
	for frame, owner := range owners {
		took(t, x, max(owner, 1), frame)
	}
	for frame, owner := range owners {
		if owner == 0 {
			told(t, "Give", x.Give(1, frame), api.OK)
		}
	}
	is(t, x, owners)
	return x
}

// span: from and all numbers behind it up to, but not with, to.
func span(from, to int) []int {
	var list []int
	for n := from; n < to; n++ {
		list = append(list, n)
	}
	return list
}

// of: a list of so many of one owner.
func of(owner, many int) []int { return slices.Repeat([]int{owner}, many) }

// which: the frames that are an owner's.
func which(owners []int, owner int) []int {
	var list []int
	for frame, one := range owners {
		if one == owner {
			list = append(list, frame)
		}
	}
	return list
}

// is holds all that a table tells against the owners of its frames.
func is(t *testing.T, x *frames.Table, owners []int) {
	t.Helper()
	for frame, owner := range owners {
		if got := x.Owner(frame); got != owner {
			t.Fatalf("Owner(%d): %d, not %d", frame, got, owner)
		}
	}
	if got := x.Owner(-1); got != -1 {
		t.Fatalf("Owner(-1): %d", got)
	}
	if got := x.Owner(len(owners)); got != -1 {
		t.Fatalf("Owner(%d): %d", len(owners), got)
	}
	all := 0
	for owner := range 10 {
		want := which(owners, owner)
		if got := x.List(owner); !slices.Equal(got, want) {
			t.Fatalf("List(%d): %v, not %v", owner, got, want)
		}
		if got := x.Count(owner); got != len(want) {
			t.Fatalf("Count(%d): %d, not %d", owner, got, len(want))
		}
		all += x.Count(owner)
	}
	if all != len(owners) {
		t.Fatalf("%d frames are somebody's or nobody's, not %d", all, len(owners))
	}
}

// told holds what a call told against what it should.
func told(t *testing.T, call string, got, want api.Errno) {
	t.Helper()
	if got != want {
		t.Fatalf("%s: %v, not %v", call, got, want)
	}
}

// took takes a frame for an owner, and holds it against the one that should be taken.
func took(t *testing.T, x *frames.Table, owner, want int) {
	t.Helper()
	if frame, e := x.Take(owner); frame != want || e != api.OK {
		t.Fatalf("Take(%d): %d %v, not %d", owner, frame, e, want)
	}
}

// tookRun likewise takes a run.
func tookRun(t *testing.T, x *frames.Table, owner, want int) {
	t.Helper()
	if frame, e := x.TakeRun(owner); frame != want || e != api.OK {
		t.Fatalf("TakeRun(%d): %d %v, not %d", owner, frame, e, want)
	}
}

// noFrame holds that no frame is taken, with this error.
func noFrame(t *testing.T, x *frames.Table, owner int, want api.Errno) {
	t.Helper()
	if frame, e := x.Take(owner); frame != -1 || e != want {
		t.Fatalf("Take(%d): %d %v, not -1 and %v", owner, frame, e, want)
	}
}

// noRun holds that no run is taken, with this error.
func noRun(t *testing.T, x *frames.Table, owner int, want api.Errno) {
	t.Helper()
	if frame, e := x.TakeRun(owner); frame != -1 || e != want {
		t.Fatalf("TakeRun(%d): %d %v, not -1 and %v", owner, frame, e, want)
	}
}

// gave gives all of an owner's, and holds them against those that should be given.
func gave(t *testing.T, x *frames.Table, owner int, want []int) {
	t.Helper()
	if list := x.GiveAll(owner); !slices.Equal(list, want) {
		t.Fatalf("GiveAll(%d): %v, not %v", owner, list, want)
	}
}

// far: numbers below 0, and great ones, such as have the lowest bits of owners and frames among them.
func far() []int {
	return []int{-1, -2, -8, -9, -10, -64, -254, -255, -256, math.MinInt32, math.MinInt32 + 1, math.MinInt, math.MinInt + 1, math.MinInt + 2, 1025, 1026, 2048, 4097, 65536, 65537,
		1 << 24, 1<<24 + 1, math.MaxInt32, 1 << 31, 1 << 32, 1<<32 + 1, 1<<32 + 2, 1<<32 + 9, 1<<56 + 1, 1 << 62, 1<<62 + 2, math.MaxInt - 1, math.MaxInt}
}

// noOwners: numbers that are no owner's, not even nobody's.
func noOwners() []int { return append([]int{10, 11, 12, 16, 17, 64, 255, 256, 257, 265}, far()...) }

// noTakers: those, and nobody.
func noTakers() []int { return append(noOwners(), 0) }

// noFrames: numbers that are no frame's of a table of so many.
func noFrames(many int) []int {
	return append([]int{many, many + 1, many + 2, many + 63, many + 64, many + 256, 1024}, far()...)
}

// The chapter's example.
func TestExample(t *testing.T) {
	x := begin(t, 4)
	took(t, x, 2, 0)
	took(t, x, 3, 1)
	told(t, "Give(2, 0)", x.Give(2, 0), api.OK)
	took(t, x, 4, 0)
	is(t, x, []int{4, 3, 0, 0})
}

// P10.1, New: there aren't 1 to MaxFrames, numbers whose lowest bits are those of good ones among them.
func TestNewRange(t *testing.T) {
	wrong := append([]int{0, -3, -1023, -1024, -1025, 1027, 1088, 1279, 1<<16 + 64, 1<<32 + 64, 1<<32 + 1024, 1<<56 + 64, math.MinInt + 64, math.MinInt + 1024}, far()...)
	for _, many := range wrong {
		if x, e := frames.New(many); x != nil || e != api.ErrRange {
			t.Errorf("New(%d): %v %v", many, x, e)
		}
	}
}

// P10.1, New: just as many frames as are asked for, all of them nobody's, and each table of its own.
func TestNew(t *testing.T) {
	for _, many := range []int{1, 2, 3, 9, 10, 63, 64, 65, 127, 128, 200, 255, 256, 257, 1023, api.MaxFrames} {
		x, other := begin(t, many), begin(t, many)
		is(t, x, of(0, many))
		for frame := range many {
			took(t, x, 1+frame%9, frame)
		}
		noFrame(t, x, 1, api.ErrFull)
		is(t, other, of(0, many))
	}
}

// P10.1, Take: by each owner, the monitor's and the guests', one after the other.
func TestTake(t *testing.T) {
	x, owners := begin(t, 30), of(0, 30)
	for frame := range 27 {
		owners[frame] = 9 - frame%9
		took(t, x, owners[frame], frame)
		is(t, x, owners)
	}
	took(t, x, 5, 27)
	took(t, x, 5, 28)
	took(t, x, 5, 29)
	is(t, x, append(owners[:27], 5, 5, 5))
}

// P10.1, Take: of nobody and of numbers that are no owner's nothing is taken, in a table that is empty, part taken or full.
func TestTakeRange(t *testing.T) {
	for _, owners := range [][]int{of(0, 3), {2, 0, 3}, {2, 9, 1}} {
		x := laid(t, owners)
		for _, owner := range noTakers() {
			noFrame(t, x, owner, api.ErrRange)
		}
		is(t, x, owners)
	}
}

// P10.1, Take: the least frame that is nobody's, also where lesser ones were given back, behind any order of giving.
func TestTakeLeast(t *testing.T) {
	x := laid(t, []int{2, 3, 2, 1, 9, 2, 0, 0})
	told(t, "Give", x.Give(9, 4), api.OK)
	told(t, "Give", x.Give(3, 1), api.OK)
	told(t, "Give", x.Give(2, 2), api.OK)
	took(t, x, 5, 1)
	took(t, x, 6, 2)
	told(t, "Give", x.Give(2, 0), api.OK)
	took(t, x, 7, 0)
	took(t, x, 8, 4)
	took(t, x, 8, 6)
	told(t, "Give", x.Give(1, 3), api.OK)
	took(t, x, 2, 3)
	took(t, x, 2, 7)
	noFrame(t, x, 2, api.ErrFull)
	is(t, x, []int{7, 5, 6, 2, 8, 2, 8, 2})
}

// P10.1, Take: every one frame that is nobody's of a table is found, at its beginning and its end too.
func TestTakeOnlyOne(t *testing.T) {
	for _, many := range []int{1, 2, 64, 65, 130} {
		for frame := range many {
			owners := of(3, many)
			owners[frame] = 0
			x := laid(t, owners)
			took(t, x, 9, frame)
			owners[frame] = 9
			is(t, x, owners)
			noFrame(t, x, 9, api.ErrFull)
		}
	}
}

// P10.1, Take: of a table that is full nothing is taken, for each owner; a frame given back is taken again.
func TestTakeFull(t *testing.T) {
	for _, many := range []int{1, 64, 100, api.MaxFrames} {
		x := laid(t, of(4, many))
		for owner := 1; owner <= 9; owner++ {
			noFrame(t, x, owner, api.ErrFull)
			noRun(t, x, owner, api.ErrFull)
		}
		is(t, x, of(4, many))
		told(t, "Give", x.Give(4, many-1), api.OK)
		took(t, x, 4, many-1)
		noFrame(t, x, 4, api.ErrFull)
	}
}

// P10.1, TakeRun: by each owner, run behind run, up to the table's end; the last frames of a table, fewer than 64, are no run.
func TestTakeRun(t *testing.T) {
	for _, many := range []int{64, 65, 127, 128, 129, 191, 200, 640, 703, 1023, api.MaxFrames} {
		x, owners := begin(t, many), of(0, many)
		for first := 0; first+64 <= many; first += 64 {
			owner := 1 + first/64%9
			tookRun(t, x, owner, first)
			copy(owners[first:], of(owner, 64))
			is(t, x, owners)
		}
		for owner := 1; owner <= 9; owner++ {
			noRun(t, x, owner, api.ErrFull)
		}
		is(t, x, owners)
		for frame := many / 64 * 64; frame < many; frame++ {
			took(t, x, 9, frame)
		}
		noFrame(t, x, 9, api.ErrFull)
	}
}

// P10.1, TakeRun: of nobody and of numbers that are no owner's nothing is taken, whether there is a run or none.
func TestTakeRunRange(t *testing.T) {
	for _, owners := range [][]int{of(0, 1), of(0, 63), of(0, 64), of(0, 200), of(5, 64), append([]int{9}, of(0, 127)...)} {
		x := laid(t, owners)
		for _, owner := range noTakers() {
			noRun(t, x, owner, api.ErrRange)
		}
		is(t, x, owners)
	}
}

// P10.1, TakeRun: a table of fewer than 64 frames has no run.
func TestTakeRunSmall(t *testing.T) {
	for many := 1; many < 64; many++ {
		x := begin(t, many)
		for owner := 1; owner <= 9; owner++ {
			noRun(t, x, owner, api.ErrFull)
		}
		took(t, x, 2, 0)
		noRun(t, x, 2, api.ErrFull)
		is(t, x, append([]int{2}, of(0, many-1)...))
	}
}

// P10.1, TakeRun: a run with one frame of somebody's, wherever in it, is passed over, also by that owner itself; the frames about it stay.
func TestTakeRunPassed(t *testing.T) {
	for frame := range 64 {
		for _, owner := range []int{1, 2, 9} {
			owners := of(0, 256)
			owners[frame], owners[128+frame] = owner, owner
			x := laid(t, owners)
			tookRun(t, x, 2, 64)
			copy(owners[64:], of(2, 64))
			is(t, x, owners)
			tookRun(t, x, owner, 192)
			copy(owners[192:], of(owner, 64))
			is(t, x, owners)
			noRun(t, x, owner, api.ErrFull)
			is(t, x, owners)
		}
	}
}

// P10.1, TakeRun: there is no run where each has a frame of somebody's, though more than 64 frames, and more than 64 in a row, are nobody's.
func TestTakeRunNone(t *testing.T) {
	for _, frame := range []int{0, 1, 31, 32, 62, 63} {
		owners := of(0, api.MaxFrames)
		for first := 0; first < len(owners); first += 64 {
			owners[first+frame] = 7
		}
		x := laid(t, owners)
		noRun(t, x, 3, api.ErrFull)
		noRun(t, x, 7, api.ErrFull)
		is(t, x, owners)
	}
	owners := of(0, 191)
	owners[0], owners[127] = 2, 2
	x := laid(t, owners)
	noRun(t, x, 2, api.ErrFull)
	is(t, x, owners)
	told(t, "Give", x.Give(2, 127), api.OK)
	tookRun(t, x, 3, 64)
}

// P10.1 and P10.2, TakeRun: a run given back, as a whole or frame by frame in any order, is a run again only once its last frame is given.
func TestTakeRunAgain(t *testing.T) {
	x := begin(t, 128)
	tookRun(t, x, 2, 0)
	tookRun(t, x, 3, 64)
	for i := range 64 {
		noRun(t, x, 4, api.ErrFull)
		told(t, "Give", x.Give(3, 64+i*37%64), api.OK)
	}
	tookRun(t, x, 4, 64)
	gave(t, x, 2, span(0, 64))
	took(t, x, 5, 0)
	noRun(t, x, 6, api.ErrFull)
	told(t, "Give", x.Give(5, 0), api.OK)
	tookRun(t, x, 6, 0)
	is(t, x, append(of(6, 64), of(4, 64)...))
}

// P10.2, Give: what is the owner's is nobody's, once; the others stay.
func TestGive(t *testing.T) {
	owners := []int{1, 2, 3, 4, 5, 6, 7, 8, 9, 2, 9, 1}
	x := laid(t, owners)
	for _, frame := range []int{4, 0, 11, 10, 5, 9, 1, 8, 7, 2, 3, 6} {
		told(t, "Give", x.Give(owners[frame], frame), api.OK)
		told(t, "Give again", x.Give(owners[frame], frame), api.ErrOwner)
		owners[frame] = 0
		is(t, x, owners)
	}
	took(t, x, 3, 0)
}

// P10.2, Give: a frame of nobody's, or of another one's, the monitor's too, isn't the owner's.
func TestGiveOwner(t *testing.T) {
	owners := []int{0, 1, 2, 3, 4, 5, 6, 7, 8, 9}
	x := laid(t, owners)
	for owner := 1; owner <= 9; owner++ {
		for frame, one := range owners {
			if one != owner {
				told(t, "Give", x.Give(owner, frame), api.ErrOwner)
			}
		}
	}
	is(t, x, owners)
}

// P10.2, Give: frames that there aren't, and owners that aren't 1 to 9, also both, and with frames of nobody's and another one's.
func TestGiveRange(t *testing.T) {
	owners := []int{2, 0, 9, 1, 0}
	x := laid(t, owners)
	for _, frame := range noFrames(len(owners)) {
		for owner := range 10 {
			told(t, "Give of no frame", x.Give(owner, frame), api.ErrRange)
		}
		for _, owner := range noOwners() {
			told(t, "Give of neither", x.Give(owner, frame), api.ErrRange)
		}
	}
	for _, owner := range noTakers() {
		for frame := range owners {
			told(t, "Give of no owner", x.Give(owner, frame), api.ErrRange)
		}
	}
	is(t, x, owners)
}

// P10.2, Give: a frame given back is taken first, if no lesser one is nobody's.
func TestGiveTake(t *testing.T) {
	for frame := range 8 {
		owners := []int{2, 2, 2, 2, 2, 2, 0, 0}
		x := laid(t, owners)
		want := api.ErrOwner
		if frame < 6 {
			want = api.OK
		}
		told(t, "Give", x.Give(2, frame), want)
		took(t, x, 3, min(frame, 6))
		owners[min(frame, 6)] = 3
		is(t, x, owners)
	}
}

// P10.2, GiveAll: none, one, several and all of an owner's, of each owner.
func TestGiveAll(t *testing.T) {
	for owner := 1; owner <= 9; owner++ {
		other := 1 + owner%9
		for _, c := range []struct{ owners, left, given []int }{
			{[]int{other, other, 0}, []int{other, other, 0}, nil},
			{[]int{0, 0, 0}, []int{0, 0, 0}, nil},
			{[]int{other, owner, 0}, []int{other, 0, 0}, []int{1}},
			{[]int{owner, other, 0, owner, other, owner}, []int{0, other, 0, 0, other, 0}, []int{0, 3, 5}},
			{of(owner, 100), of(0, 100), span(0, 100)},
			{append(of(owner, 64), of(other, 64)...), append(of(0, 64), of(other, 64)...), span(0, 64)},
		} {
			x := laid(t, c.owners)
			gave(t, x, owner, c.given)
			is(t, x, c.left)
			gave(t, x, owner, nil)
			is(t, x, c.left)
		}
	}
}

// P10.2, GiveAll: rising, whatever the order in which the frames became the owner's.
func TestGiveAllRising(t *testing.T) {
	x := laid(t, []int{3, 3, 3, 3, 3, 3})
	for _, frame := range []int{4, 0, 5, 2} {
		told(t, "Move", x.Move(frame, 3, 8), api.OK)
	}
	gave(t, x, 8, []int{0, 2, 4, 5})
	is(t, x, []int{0, 3, 0, 3, 0, 0})
	took(t, x, 8, 0)
}

// P10.2, GiveAll: of 0 and of owners outside nothing.
func TestGiveAllNothing(t *testing.T) {
	for _, owners := range [][]int{of(0, 5), {2, 0, 9, 1, 0}, {1, 2, 9}} {
		x := laid(t, owners)
		for _, owner := range noTakers() {
			gave(t, x, owner, nil)
		}
		is(t, x, owners)
	}
}

// P10.2, Move: from each owner to each, to the same one too.
func TestMove(t *testing.T) {
	for from := 1; from <= 9; from++ {
		for to := 1; to <= 9; to++ {
			x := laid(t, []int{from, 0, from, to, from})
			told(t, "Move", x.Move(2, from, to), api.OK)
			is(t, x, []int{from, 0, to, to, from})
			want := api.ErrOwner
			if from == to {
				want = api.OK
			}
			told(t, "Move again", x.Move(2, from, to), want)
			is(t, x, []int{from, 0, to, to, from})
			told(t, "Move back", x.Move(2, to, from), api.OK)
			is(t, x, []int{from, 0, from, to, from})
			took(t, x, to, 1)
		}
	}
}

// P10.2, Move: a frame of nobody's, of another one's, or of the one to whom it should go, isn't the one's.
func TestMoveOwner(t *testing.T) {
	owners := []int{0, 1, 2, 3, 4, 5, 6, 7, 8, 9}
	x := laid(t, owners)
	for from := 1; from <= 9; from++ {
		for to := 1; to <= 9; to++ {
			for frame := range owners {
				if frame != from {
					told(t, "Move", x.Move(frame, from, to), api.ErrOwner)
				}
			}
		}
	}
	is(t, x, owners)
}

// P10.2, Move: frames that there aren't, and owners that aren't 1 to 9, nobody too, of which frames aren't moved and to whom they aren't.
func TestMoveRange(t *testing.T) {
	owners := []int{2, 0, 9, 1, 0}
	x := laid(t, owners)
	for _, frame := range noFrames(len(owners)) {
		for _, one := range append(noTakers(), 1, 2, 9) {
			told(t, "Move of no frame", x.Move(frame, one, 2), api.ErrRange)
			told(t, "Move of no frame", x.Move(frame, 2, one), api.ErrRange)
			told(t, "Move of no frame", x.Move(frame, one, one), api.ErrRange)
		}
	}
	for _, one := range noTakers() {
		for frame, owner := range owners {
			told(t, "Move from no owner", x.Move(frame, one, 2), api.ErrRange)
			told(t, "Move to no owner", x.Move(frame, owner, one), api.ErrRange)
			told(t, "Move of another one's to no owner", x.Move(frame, 5, one), api.ErrRange)
			told(t, "Move of no owner to none", x.Move(frame, one, one), api.ErrRange)
		}
	}
	is(t, x, owners)
}

// P10.1 and P10.2: a frame that is moved is given by its new owner alone, and taken once that is done.
func TestMoveGive(t *testing.T) {
	x := laid(t, []int{2, 2, 2})
	told(t, "Move", x.Move(1, 2, 1), api.OK)
	noFrame(t, x, 2, api.ErrFull)
	told(t, "Give of the old owner", x.Give(2, 1), api.ErrOwner)
	told(t, "Give of the new owner", x.Give(1, 1), api.OK)
	took(t, x, 3, 1)
	is(t, x, []int{2, 3, 2})
}

// P10.2, Owner: each frame's, and -1 of what is no frame, in tables of all kinds.
func TestOwner(t *testing.T) {
	for _, many := range []int{1, 5, 64, 100, api.MaxFrames} {
		owners := of(0, many)
		for frame := range owners {
			owners[frame] = frame * 7 % 10
		}
		x := laid(t, owners)
		for _, frame := range append(far(), many, many+1, many+64) {
			if got := x.Owner(frame); got != -1 {
				t.Errorf("Owner(%d) of %d: %d", frame, many, got)
			}
		}
	}
}

// P10.2, Count and List: of owners outside nothing, of each owner what is its, of nobody too.
func TestCountList(t *testing.T) {
	x := laid(t, []int{0, 9, 1, 2, 0, 9, 9, 5, 0, 0})
	for _, owner := range noOwners() {
		if n, list := x.Count(owner), x.List(owner); n != 0 || len(list) != 0 {
			t.Errorf("of %d: %d %v", owner, n, list)
		}
	}
	for owner, want := range [][]int{{0, 4, 8, 9}, {2}, {3}, nil, nil, {7}, nil, nil, nil, {1, 5, 6}} {
		if n, list := x.Count(owner), x.List(owner); n != len(want) || !slices.Equal(list, want) {
			t.Errorf("of %d: %d %v, not %v", owner, n, list, want)
		}
	}
}

// scribble changes a list, what is appended to it, and all of its spare room.
func scribble(list []int) {
	for i := range list {
		list[i] = 5
	}
	spare := append(list, 5, 5)
	for i := range spare[:cap(spare)] {
		spare[:cap(spare)][i] = 5
	}
	for i := range list[:cap(list)] {
		list[:cap(list)][i] = 5
	}
}

// P10.3: what List answers, changed or appended to, changes nothing of the table, and two lists share nothing.
func TestNewMemory(t *testing.T) {
	owners := []int{2, 3, 0, 2, 0, 3, 2, 9}
	x := laid(t, owners)
	for owner := range 10 {
		a, b := x.List(owner), x.List(owner)
		scribble(a)
		if want := which(owners, owner); !slices.Equal(b, want) {
			t.Errorf("another list of %d is changed: %v", owner, b)
		}
		is(t, x, owners)
	}
}

// P10.3: what GiveAll answers, changed or appended to, changes nothing of the table, nor of a list.
func TestNewMemoryGiven(t *testing.T) {
	x := laid(t, []int{2, 3, 0, 2, 0, 3, 2, 9})
	list := x.List(2)
	given := x.GiveAll(2)
	scribble(given)
	is(t, x, []int{0, 3, 0, 0, 0, 3, 0, 9})
	if !slices.Equal(list, []int{0, 3, 6}) {
		t.Errorf("a list is changed: %v", list)
	}
	again := x.GiveAll(3)
	scribble(list)
	scribble(x.GiveAll(2))
	scribble(x.GiveAll(0))
	scribble(x.List(7))
	if !slices.Equal(again, []int{1, 5}) {
		t.Errorf("what was given is changed: %v", again)
	}
	is(t, x, []int{0, 0, 0, 0, 0, 0, 0, 9})
}

// P10.3: a list tells what was so when it was answered, whatever is called behind it.
func TestListStays(t *testing.T) {
	x := laid(t, []int{2, 3, 2, 0})
	two, free := x.List(2), x.List(0)
	took(t, x, 2, 3)
	told(t, "Move", x.Move(1, 3, 2), api.OK)
	told(t, "Give", x.Give(2, 0), api.OK)
	given := x.GiveAll(2)
	took(t, x, 8, 0)
	if !slices.Equal(two, []int{0, 2}) || !slices.Equal(free, []int{3}) || !slices.Equal(given, []int{1, 2, 3}) {
		t.Errorf("lists are changed by calls: %v %v %v", two, free, given)
	}
	is(t, x, []int{8, 0, 0, 0})
}

// P10.3: one table's calls leave another one alone.
func TestTwo(t *testing.T) {
	owners := append([]int{2, 3, 0, 9}, of(0, 124)...)
	a, b := laid(t, owners), laid(t, owners)
	took(t, a, 5, 2)
	tookRun(t, a, 5, 64)
	told(t, "Give", a.Give(9, 3), api.OK)
	told(t, "Move", a.Move(0, 2, 3), api.OK)
	gave(t, a, 3, []int{0, 1})
	is(t, b, owners)
	gave(t, b, 2, []int{0})
	is(t, a, slices.Concat([]int{0, 0, 5, 0}, of(0, 60), of(5, 64)))
}

// row: numbers that differ, the same each time.
func row(seed uint32) func(n int) int {
	return func(n int) int {
		seed = seed*1664525 + 1013904223
		return int(seed>>8) % n
	}
}

// model is a table, told by the chapter's sentences one after the other: the owners of its frames.
type model []int

// free: are all of these frames nobody's?
func (m model) free(from, to int) bool {
	return !slices.ContainsFunc(m[from:to], func(owner int) bool { return owner != 0 })
}

// take: of the places that are so many frames apart, the least at which so many are nobody's.
func (m model) take(owner, many int) (int, api.Errno) {
	if owner < 1 || owner > 9 {
		return -1, api.ErrRange
	}
	for first := range m {
		if first%many == 0 && first+many <= len(m) && m.free(first, first+many) {
			copy(m[first:], of(owner, many))
			return first, api.OK
		}
	}
	return -1, api.ErrFull
}

// move: a frame of the one's is the other one's.
func (m model) move(frame, from, to int) api.Errno {
	if frame < 0 || frame >= len(m) || from < 1 || from > 9 {
		return api.ErrRange
	}
	if m[frame] != from {
		return api.ErrOwner
	}
	m[frame] = to
	return api.OK
}

// giveAll: all of the owner's are nobody's.
func (m model) giveAll(owner int) []int {
	if owner == 0 {
		return nil
	}
	given := which(m, owner)
	for _, frame := range given {
		m[frame] = 0
	}
	return given
}

// anyOwner: mostly an owner, sometimes nobody or a number that is no owner's.
func anyOwner(next func(n int) int) int {
	if next(12) == 0 {
		list := noTakers()
		return list[next(len(list))]
	}
	return 1 + next(9)
}

// anyFrame: mostly a frame of so many, sometimes none.
func anyFrame(many int, next func(n int) int) int {
	if next(12) == 0 {
		list := noFrames(many)
		return list[next(len(list))]
	}
	return next(many)
}

// likely: the owner of a frame, if it has one, mostly; else any.
func likely(m model, frame int, next func(n int) int) int {
	if frame >= 0 && frame < len(m) && next(4) != 0 {
		return m[frame]
	}
	return anyOwner(next)
}

// call does a random call on a table and on its model, and holds what both answered against each other; greed is how many calls of a hundred take.
func call(t *testing.T, x *frames.Table, m model, greed int, next func(n int) int) {
	t.Helper()
	owner, frame := anyOwner(next), anyFrame(len(m), next)
	switch n := next(100); {
	case n < greed:
		got, e := x.Take(owner)
		if want, f := m.take(owner, 1); got != want || e != f {
			t.Fatalf("Take(%d): %d %v, not %d %v", owner, got, e, want, f)
		}
	case n < greed+10:
		got, e := x.TakeRun(owner)
		if want, f := m.take(owner, 64); got != want || e != f {
			t.Fatalf("TakeRun(%d): %d %v, not %d %v", owner, got, e, want, f)
		}
	case n < greed+15:
		gave(t, x, owner, m.giveAll(owner))
	case n < greed+25:
		from, want := likely(m, frame, next), api.ErrRange
		if owner >= 1 && owner <= 9 {
			want = m.move(frame, from, owner)
		}
		told(t, "Move", x.Move(frame, from, owner), want)
	default:
		from := likely(m, frame, next)
		told(t, "Give", x.Give(from, frame), m.move(frame, from, 0))
	}
}

// P10.1 to P10.3: rows of mixed calls, against the model, in tables of all kinds, greedy ones and others.
func TestMixedCalls(t *testing.T) {
	for seed, many := range []int{1, 2, 5, 63, 64, 65, 127, 128, 150, 200, 256, 300} {
		for _, greed := range []int{5, 40, 70} {
			x, m, next := begin(t, many), make(model, many), row(uint32(100*seed+greed))
			for range 600 {
				call(t, x, m, greed, next)
				is(t, x, m)
			}
		}
	}
}

// P10.1 to P10.3: a long row on the greatest table.
func TestMixedCallsGreatest(t *testing.T) {
	x, m, next := begin(t, api.MaxFrames), make(model, api.MaxFrames), row(7)
	for n := range 20000 {
		call(t, x, m, 45, next)
		if n%50 == 0 {
			is(t, x, m)
		}
	}
	is(t, x, m)
}

// P1: no call panics, whatever numbers it is handed, and each answers that there is nothing.
func TestAllArguments(t *testing.T) {
	x := laid(t, []int{2, 0, 9})
	for _, a := range far() {
		noFrame(t, x, a, api.ErrRange)
		noRun(t, x, a, api.ErrRange)
		gave(t, x, a, nil)
		if x.Owner(a) != -1 || x.Count(a) != 0 || len(x.List(a)) != 0 {
			t.Errorf("of %d there is something", a)
		}
		for _, b := range far() {
			told(t, "Give", x.Give(a, b), api.ErrRange)
			for _, c := range []int{0, 2, math.MinInt, math.MaxInt} {
				told(t, "Move", x.Move(a, b, c), api.ErrRange)
				told(t, "Move", x.Move(c, a, b), api.ErrRange)
				told(t, "Move", x.Move(b, c, a), api.ErrRange)
			}
		}
	}
	is(t, x, []int{2, 0, 9})
}
