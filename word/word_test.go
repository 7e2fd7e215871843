package word_test

import (
	"bytes"
	"math"
	"math/big"
	"slices"
	"testing"

	"warder/word"
)

const top = math.MaxUint64

// edgeWords: words with single bits, their edges, and mixed ones.
func edgeWords() []uint32 {
	list := []uint32{0, 1, 2, 0x7f, 0x80, 0xff, 0xabcd, 0x12345678, 0x55555555, 0xaaaaaaaa, 0x7fffffff, 0x80000000, 0x80000001, 0xfffffffe, 0xffffffff}
	for i := range 32 {
		list = append(list, 1<<i, 1<<i-1, ^(uint32(1) << i))
	}
	return list
}

// edgePlaces: places and widths within a word, around its ends, and far off.
func edgePlaces() []int {
	list := []int{math.MinInt, math.MinInt + 1, math.MinInt + 32, math.MinInt32, -65, -64, -33, -32, 63, 64, 65, 255, 256, math.MaxInt32, 1 << 32, 1<<32 + 1, math.MaxInt - 33, math.MaxInt - 32, math.MaxInt - 4, math.MaxInt - 1, math.MaxInt}
	for i := -5; i <= 40; i++ {
		list = append(list, i)
	}
	return list
}

// isField tells by big numbers, which don't go round, whether there is a field.
func isField(at, n int) bool {
	end := new(big.Int).Add(big.NewInt(int64(at)), big.NewInt(int64(n)))
	return n >= 1 && n <= 32 && at >= 0 && end.Cmp(big.NewInt(32)) <= 0
}

func bit(w uint32, i int) uint32 { return w >> uint(i) & 1 }

// P1.1, the chapter's examples and the named edges.
func TestFieldExamples(t *testing.T) {
	for _, c := range []struct {
		w     uint32
		at, n int
		want  uint32
	}{
		{0xabcd, 4, 8, 0xbc},
		{0xabcd, 0, 32, 0xabcd},
		{0x80000000, 31, 1, 1},
		{0xffffffff, 16, 16, 0xffff},
		{0xffffffff, 1, 31, 0x7fffffff},
		{0xffffffff, 0, 0, 0},
		{0xffffffff, 0, 33, 0},
		{0xffffffff, 1, 32, 0},
		{0xffffffff, 17, 16, 0},
		{0xffffffff, 32, 1, 0},
		{0xffffffff, 32, 0, 0},
		{0xffffffff, -1, 1, 0},
		{0xffffffff, -1, 33, 0},
		{0xffffffff, 33, -1, 0},
		{0xffffffff, math.MaxInt, 1, 0},
		{0xffffffff, math.MaxInt, math.MaxInt, 0},
		{0xffffffff, math.MinInt, math.MinInt, 0},
		{0xffffffff, 1, math.MaxInt, 0},
		{0xffffffff, math.MinInt, 32, 0},
	} {
		if x := word.Field(c.w, c.at, c.n); x != c.want {
			t.Errorf("Field(%#x, %d, %d): %#x, not %#x", c.w, c.at, c.n, x, c.want)
		}
	}
}

// P1.1, Field: bit by bit, at every kind of place and width.
func TestFieldBits(t *testing.T) {
	for _, w := range edgeWords() {
		for _, at := range edgePlaces() {
			for _, n := range edgePlaces() {
				want := uint32(0)
				if isField(at, n) {
					for i := range n {
						want |= bit(w, at+i) << uint(i)
					}
				}
				if x := word.Field(w, at, n); x != want {
					t.Fatalf("Field(%#x, %d, %d): %#x, not %#x", w, at, n, x, want)
				}
			}
		}
	}
}

// P1.1, Put: v's bits in the field, the word's own ones outside it.
func TestPutBits(t *testing.T) {
	for _, w := range []uint32{0, 0xffffffff, 0x12345678, 0x80000001} {
		for _, v := range edgeWords() {
			for _, at := range edgePlaces() {
				for _, n := range edgePlaces() {
					want := w
					if isField(at, n) {
						want = 0
						for i := range 32 {
							if i >= at && i < at+n {
								want |= bit(v, i-at) << uint(i)
							} else {
								want |= bit(w, i) << uint(i)
							}
						}
					}
					if x := word.Put(w, at, n, v); x != want {
						t.Fatalf("Put(%#x, %d, %d, %#x): %#x, not %#x", w, at, n, v, x, want)
					}
				}
			}
		}
	}
}

// P1.1, the named edges of Put.
func TestPutExamples(t *testing.T) {
	for _, c := range []struct {
		w     uint32
		at, n int
		v     uint32
		want  uint32
	}{
		{0xabcd, 4, 8, 0x112, 0xa12d},
		{0, 31, 1, 3, 0x80000000},
		{0xffffffff, 31, 1, 2, 0x7fffffff},
		{0xffffffff, 0, 32, 5, 5},
		{7, 0, 0, 1, 7},
		{7, 0, 33, 1, 7},
		{7, 31, 2, 1, 7},
		{7, 32, 1, 1, 7},
		{7, -1, 2, 1, 7},
		{7, 0, -1, 1, 7},
		{7, math.MaxInt, 1, 1, 7},
		{7, 1, math.MaxInt, 1, 7},
		{7, math.MinInt, 1, 1, 7},
	} {
		if x := word.Put(c.w, c.at, c.n, c.v); x != c.want {
			t.Errorf("Put(%#x, %d, %d, %#x): %#x, not %#x", c.w, c.at, c.n, c.v, x, c.want)
		}
	}
}

// P1.1, Extend: bit by bit.
func TestExtend(t *testing.T) {
	if x := word.Extend(0xf8, 8); x != 0xfffffff8 {
		t.Errorf("Extend(0xf8, 8): %#x", x)
	}
	if x := word.Extend(0xffffff78, 8); x != 0x78 {
		t.Errorf("Extend(0xffffff78, 8): %#x", x)
	}
	for _, v := range edgeWords() {
		for _, n := range edgePlaces() {
			want := uint32(0)
			if n >= 1 && n <= 32 {
				for i := range 32 {
					want |= bit(v, min(i, n-1)) << uint(i)
				}
			}
			if x := word.Extend(v, n); x != want {
				t.Fatalf("Extend(%#x, %d): %#x, not %#x", v, n, x, want)
			}
		}
	}
}

// roomy: bytes of a length, with more bytes behind it in their memory, and all of that memory.
func roomy(n int) (b, all []byte) {
	all = make([]byte, n+8)
	for i := range all {
		all[i] = byte(0xa1 + 7*i)
	}
	return all[:n], all
}

// P1.2 and P1.4, Get: at every place around bytes of many lengths; the bytes, and what lies behind them, stay.
func TestGet(t *testing.T) {
	for n := range 12 {
		b, all := roomy(n)
		before := bytes.Clone(all)
		for _, at := range edgePlaces() {
			want, there := uint32(0), at >= 0 && at < n && n-at >= 4
			if there {
				for i := 3; i >= 0; i-- {
					want = want*256 + uint32(all[at+i])
				}
			}
			if w, ok := word.Get(b, at); ok != there || w != want {
				t.Errorf("Get(%d bytes, %d): %#x %t, not %#x %t", n, at, w, ok, want, there)
			}
			if !bytes.Equal(all, before) {
				t.Fatalf("Get(%d bytes, %d) changes bytes", n, at)
			}
		}
	}
	if w, ok := word.Get(nil, 0); ok || w != 0 {
		t.Errorf("Get(nil, 0): %#x %t", w, ok)
	}
}

// P1.2 and P1.4, Set: the four bytes and no others, those behind the length least of all.
func TestSet(t *testing.T) {
	for n := range 12 {
		for _, at := range edgePlaces() {
			b, all := roomy(n)
			want, there := bytes.Clone(all), at >= 0 && at < n && n-at >= 4
			if there {
				copy(want[at:], []byte{4, 3, 2, 0x81})
			}
			if ok := word.Set(b, at, 0x81020304); ok != there {
				t.Errorf("Set(%d bytes, %d): %t", n, at, ok)
			}
			if !bytes.Equal(all, want) {
				t.Fatalf("Set(%d bytes, %d): % x, not % x", n, at, all, want)
			}
		}
	}
	if word.Set(nil, 0, 1) || word.Set([]byte{}, 0, 1) || word.Set(nil, -4, 1) {
		t.Error("Set of no bytes")
	}
}

// P1.2: what is set is got again.
func TestSetGet(t *testing.T) {
	b := make([]byte, 7)
	for _, w := range edgeWords() {
		for at := range 4 {
			if !word.Set(b, at, w) {
				t.Fatalf("Set(b, %d, %#x)", at, w)
			}
			if x, ok := word.Get(b, at); !ok || x != w {
				t.Fatalf("Get(b, %d): %#x, not %#x", at, x, w)
			}
		}
	}
}

// P1.2, Bytes: the lowest byte first, the words one behind the other.
func TestBytes(t *testing.T) {
	for _, c := range []struct {
		list []uint32
		want []byte
	}{
		{nil, nil},
		{[]uint32{}, nil},
		{[]uint32{0}, []byte{0, 0, 0, 0}},
		{[]uint32{0x01020304}, []byte{4, 3, 2, 1}},
		{[]uint32{0x01020304, 0xfffefdfc, 7}, []byte{4, 3, 2, 1, 0xfc, 0xfd, 0xfe, 0xff, 7, 0, 0, 0}},
	} {
		if b := word.Bytes(c.list...); !bytes.Equal(b, c.want) {
			t.Errorf("Bytes(%x): % x, not % x", c.list, b, c.want)
		}
	}
	list := edgeWords()
	b := word.Bytes(list...)
	if len(b) != 4*len(list) {
		t.Fatalf("%d bytes of %d words", len(b), len(list))
	}
	for i, w := range list {
		if x, ok := word.Get(b, 4*i); !ok || x != w {
			t.Errorf("word %d: %#x, not %#x", i, x, w)
		}
	}
}

// P1.4: Bytes leaves its words, and answers memory of its own, spare room too.
func TestBytesMemory(t *testing.T) {
	all := []uint32{1, 2, 3, 4, 5}
	first := word.Bytes(all[:3]...)
	second := word.Bytes(all[:3]...)
	if !slices.Equal(all, []uint32{1, 2, 3, 4, 5}) {
		t.Error("words are changed:", all)
	}
	spare := first[:cap(first)]
	for i := range spare {
		spare[i] = 0xee
	}
	all[0] = 9
	if !bytes.Equal(second, []byte{1, 0, 0, 0, 2, 0, 0, 0, 3, 0, 0, 0}) {
		t.Errorf("two answers share memory: % x", second)
	}
	if third := word.Bytes(2); !bytes.Equal(third, []byte{2, 0, 0, 0}) {
		t.Errorf("an answer is kept: % x", third)
	}
}

// edgeNumbers: numbers of 64 bits around the powers of two, and mixed ones.
func edgeNumbers() []uint64 {
	return []uint64{0, 1, 2, 3, 5, 7, 10, 8192, 1<<31 - 1, 1 << 31, 1<<32 - 1, 1 << 32, 1<<32 + 1, 1 << 62, 1<<63 - 1, 1 << 63, 1<<63 + 1, 0x123456789abcdef0, 0x5555555555555555, 0xaaaaaaaaaaaaaaaa, top - 1, top}
}

func edgeWides() []word.Wide {
	var list []word.Wide
	for _, hi := range edgeNumbers() {
		for _, lo := range edgeNumbers() {
			list = append(list, word.Wide{Hi: hi, Lo: lo})
		}
	}
	return list
}

func number(n uint64) *big.Int { return new(big.Int).SetUint64(n) }

func whole(w word.Wide) *big.Int {
	n := number(w.Hi)
	return n.Add(n.Lsh(n, 64), number(w.Lo))
}

// P1.3, Mul.
func TestMul(t *testing.T) {
	if x := word.Mul(top, top); x != (word.Wide{Hi: top - 1, Lo: 1}) {
		t.Errorf("the greatest product: %x", x)
	}
	for _, a := range edgeNumbers() {
		for _, b := range edgeNumbers() {
			want := new(big.Int).Mul(number(a), number(b))
			if x := word.Mul(a, b); whole(x).Cmp(want) != 0 {
				t.Errorf("Mul(%d, %d): %v", a, b, x)
			}
		}
	}
}

// P1.3, the sums just below 2^128, of it, and above it.
func TestAddEdges(t *testing.T) {
	most := word.Wide{Hi: top, Lo: top}
	for _, c := range []struct {
		a, b, want word.Wide
		ok         bool
	}{
		{word.Wide{Lo: 2}, word.Wide{Lo: 3}, word.Wide{Lo: 5}, true},
		{word.Wide{Lo: top}, word.Wide{Lo: 1}, word.Wide{Hi: 1}, true},
		{word.Wide{Hi: top, Lo: top - 1}, word.Wide{Lo: 1}, most, true},
		{most, word.Wide{}, most, true},
		{most, word.Wide{Lo: 1}, word.Wide{}, false},
		{word.Wide{Hi: 1 << 63}, word.Wide{Hi: 1 << 63}, word.Wide{}, false},
		{word.Wide{Hi: 1 << 63, Lo: 5}, word.Wide{Hi: 1 << 63, Lo: 6}, word.Wide{}, false},
		{word.Wide{Hi: top, Lo: 1}, word.Wide{Lo: top}, word.Wide{}, false},
		{most, most, word.Wide{}, false},
	} {
		if x, ok := word.Add(c.a, c.b); x != c.want || ok != c.ok {
			t.Errorf("Add(%x, %x): %x %t", c.a, c.b, x, ok)
		}
		if x, ok := word.Add(c.b, c.a); x != c.want || ok != c.ok {
			t.Errorf("Add(%x, %x): %x %t", c.b, c.a, x, ok)
		}
	}
}

// P1.3, Add and Compare against big numbers.
func TestAddCompare(t *testing.T) {
	bound := new(big.Int).Lsh(big.NewInt(1), 128)
	for _, a := range edgeWides() {
		for _, b := range edgeWides() {
			want := whole(a)
			if x := word.Compare(a, b); x != want.Cmp(whole(b)) {
				t.Fatalf("Compare(%x, %x): %d", a, b, x)
			}
			want.Add(want, whole(b))
			below := want.Cmp(bound) < 0
			if !below {
				want.SetInt64(0)
			}
			if x, ok := word.Add(a, b); ok != below || whole(x).Cmp(want) != 0 {
				t.Fatalf("Add(%x, %x): %x %t", a, b, x, ok)
			}
		}
	}
}

// P1.3, Compare: the high halves come first.
func TestCompareEdges(t *testing.T) {
	for _, c := range []struct {
		a, b word.Wide
		want int
	}{
		{word.Wide{}, word.Wide{}, 0},
		{word.Wide{Hi: top, Lo: top}, word.Wide{Hi: top, Lo: top}, 0},
		{word.Wide{Lo: top}, word.Wide{Hi: 1}, -1},
		{word.Wide{Hi: 1 << 63}, word.Wide{Hi: 1<<63 - 1, Lo: top}, 1},
		{word.Wide{Lo: 1 << 63}, word.Wide{Lo: 1<<63 - 1}, 1},
		{word.Wide{Hi: 4, Lo: 1}, word.Wide{Hi: 4, Lo: 2}, -1},
	} {
		if x, y := word.Compare(c.a, c.b), word.Compare(c.b, c.a); x != c.want || y != -c.want {
			t.Errorf("Compare(%x, %x): %d, turned round %d", c.a, c.b, x, y)
		}
	}
}

// P1.3, Div: rounded down, with its rest; nothing by 0.
func TestDiv(t *testing.T) {
	for _, a := range edgeWides() {
		for _, b := range edgeNumbers() {
			q, r, ok := word.Div(a, b)
			if b == 0 {
				if ok || r != 0 || q != (word.Wide{}) {
					t.Fatalf("Div(%x, 0): %x %d %t", a, q, r, ok)
				}
				continue
			}
			want, rest := new(big.Int).QuoRem(whole(a), number(b), new(big.Int))
			if !ok || whole(q).Cmp(want) != 0 || number(r).Cmp(rest) != 0 {
				t.Fatalf("Div(%x, %d): %x %d %t", a, b, q, r, ok)
			}
		}
	}
}

// P1.3, Div: the edges by hand.
func TestDivEdges(t *testing.T) {
	most := word.Wide{Hi: top, Lo: top}
	for _, c := range []struct {
		a    word.Wide
		b    uint64
		q    word.Wide
		rest uint64
		ok   bool
	}{
		{word.Wide{Lo: 7}, 2, word.Wide{Lo: 3}, 1, true},
		{word.Wide{}, 1, word.Wide{}, 0, true},
		{most, 1, most, 0, true},
		{most, top, word.Wide{Hi: 1, Lo: 1}, 0, true},
		{word.Wide{Hi: 1}, 2, word.Wide{Lo: 1 << 63}, 0, true},
		{word.Wide{Hi: 5}, 5, word.Wide{Hi: 1}, 0, true},
		{word.Wide{Hi: top - 1, Lo: top}, top, word.Wide{Lo: top}, top - 1, true},
		{word.Wide{}, 0, word.Wide{}, 0, false},
		{most, 0, word.Wide{}, 0, false},
	} {
		q, r, ok := word.Div(c.a, c.b)
		if q != c.q || r != c.rest || ok != c.ok {
			t.Errorf("Div(%x, %d): %x %d %t", c.a, c.b, q, r, ok)
		}
	}
}
