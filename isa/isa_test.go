package isa_test

import (
	"bytes"
	"fmt"
	"math"
	"regexp"
	"slices"
	"strconv"
	"strings"
	"testing"

	"warder/api"
	"warder/isa"
	"warder/word"
)

// told: the chapter's table, by Ops. What is used: a and b registers, c a register in the Imm, n a number, s a signed one.
var told = []struct{ name, uses string }{
	{"nop", ""}, {"li", "an"}, {"lui", "an"},
	{"add", "abc"}, {"sub", "abc"}, {"and", "abc"}, {"or", "abc"}, {"xor", "abc"}, {"shl", "abc"}, {"shr", "abc"}, {"mul", "abc"},
	{"addi", "abs"}, {"ld", "abs"}, {"st", "abs"}, {"ldb", "abs"}, {"stb", "abs"}, {"beq", "abs"}, {"bne", "abs"}, {"blt", "abs"},
	{"jal", "as"}, {"jr", "a"}, {"hvc", "n"}, {"wfi", ""}, {"clk", "a"}, {"msr", "an"}, {"mrs", "an"}, {"eret", ""}, {"halt", ""},
}

// isTold: is it an instruction by the chapter's table?
func isTold(x isa.Ins) bool {
	if x.Op < 0 || x.Op > 27 {
		return false
	}
	mostA, mostB, mostImm := 0, 0, 0
	for _, use := range told[x.Op].uses {
		switch use {
		case 'a':
			mostA = 15
		case 'b':
			mostB = 15
		case 'c':
			mostImm = 15
		default:
			mostImm = 65535
		}
	}
	return x.A >= 0 && x.A <= mostA && x.B >= 0 && x.B <= mostB && x.Imm >= 0 && x.Imm <= mostImm
}

// textTold: an instruction's text by the chapter's table.
func textTold(x isa.Ins) string {
	text := told[x.Op].name
	for _, use := range told[x.Op].uses {
		switch use {
		case 'a':
			text += fmt.Sprintf(" r%d", x.A)
		case 'b':
			text += fmt.Sprintf(" r%d", x.B)
		case 'c':
			text += fmt.Sprintf(" r%d", x.Imm)
		case 'n':
			text += fmt.Sprintf(" %d", x.Imm)
		case 's':
			text += fmt.Sprintf(" %d", int16(uint16(x.Imm)))
		}
	}
	return text
}

// wordTold: an instruction's word as a sum.
func wordTold(x isa.Ins) uint32 { return uint32(x.Op + x.A*256 + x.B*4096 + x.Imm*65536) }

func edgeOps() []int {
	list := []int{math.MinInt, math.MinInt + 1, -256, -255, -2, -1, 28, 29, 255, 256, 257, 283, 1 << 32, 1<<32 + 1, math.MaxInt - 1, math.MaxInt}
	for op := range told {
		list = append(list, op)
	}
	return list
}

func edgeRegs() []int {
	return []int{math.MinInt, -16, -15, -1, 0, 1, 7, 14, 15, 16, 17, 31, 256, 1 << 32, 1<<32 + 1, math.MaxInt}
}

func edgeImms() []int {
	return []int{math.MinInt, -65536, -32769, -32768, -1, 0, 1, 7, 14, 15, 16, 17, 255, 256, 4095, 32766, 32767, 32768, 32769, 65534, 65535, 65536, 65537, 98304, 1 << 32, 1<<32 + 1, math.MaxInt}
}

// someIns: instructions of every operation, with all registers and many Imms.
func someIns() []isa.Ins {
	var list []isa.Ins
	for op := range told {
		for a := range 16 {
			for b := range 16 {
				for _, imm := range edgeImms() {
					if x := (isa.Ins{Op: op, A: a, B: b, Imm: imm}); isTold(x) {
						list = append(list, x)
					}
				}
			}
		}
	}
	return list
}

// P2.1: the operations are counted as told.
func TestOperations(t *testing.T) {
	list := []int{isa.Nop, isa.Li, isa.Lui, isa.Add, isa.Sub, isa.And, isa.Or, isa.Xor, isa.Shl, isa.Shr, isa.Mul, isa.AddI, isa.Ld, isa.St, isa.LdB, isa.StB, isa.Beq, isa.Bne, isa.Blt, isa.Jal, isa.Jr, isa.Hvc, isa.Wfi, isa.Clk, isa.Msr, isa.Mrs, isa.Eret, isa.Halt}
	if len(list) != 28 {
		t.Fatal(len(list))
	}
	for i, op := range list {
		if op != i {
			t.Errorf("operation %d is %d", i, op)
		}
	}
}

// P2.1, the edges by hand.
func TestEncodeEdges(t *testing.T) {
	for _, c := range []struct {
		x  isa.Ins
		w  uint32
		ok bool
	}{
		{isa.Ins{}, 0, true},
		{isa.Ins{Op: isa.AddI, A: 1, B: 2, Imm: 65535}, 0xffff210b, true},
		{isa.Ins{Op: isa.Li, A: 15, Imm: 65535}, 0xffff0f01, true},
		{isa.Ins{Op: isa.Li}, 1, true},
		{isa.Ins{Op: isa.Add, A: 15, B: 15, Imm: 15}, 0x000fff03, true},
		{isa.Ins{Op: isa.Beq, Imm: 32767}, 0x7fff0010, true},
		{isa.Ins{Op: isa.Beq, Imm: 32768}, 0x80000010, true},
		{isa.Ins{Op: isa.Hvc, Imm: 32768}, 0x80000015, true},
		{isa.Ins{Op: isa.Halt}, 27, true},
		{isa.Ins{Op: -1}, 0, false},
		{isa.Ins{Op: 28}, 0, false},
		{isa.Ins{Op: 256}, 0, false},
		{isa.Ins{Op: math.MinInt}, 0, false},
		{isa.Ins{Op: math.MaxInt}, 0, false},
		{isa.Ins{Op: isa.Li, A: -1}, 0, false},
		{isa.Ins{Op: isa.Li, A: 16}, 0, false},
		{isa.Ins{Op: isa.Li, B: 1}, 0, false},
		{isa.Ins{Op: isa.Li, Imm: -1}, 0, false},
		{isa.Ins{Op: isa.Li, Imm: 65536}, 0, false},
		{isa.Ins{Op: isa.Add, B: -1}, 0, false},
		{isa.Ins{Op: isa.Add, B: 16}, 0, false},
		{isa.Ins{Op: isa.Add, Imm: 16}, 0, false},
		{isa.Ins{Op: isa.AddI, Imm: -1}, 0, false},
		{isa.Ins{Op: isa.AddI, Imm: 65536}, 0, false},
		{isa.Ins{Op: isa.Nop, A: 1}, 0, false},
		{isa.Ins{Op: isa.Nop, B: 1}, 0, false},
		{isa.Ins{Op: isa.Nop, Imm: 1}, 0, false},
		{isa.Ins{Op: isa.Jal, B: 1}, 0, false},
		{isa.Ins{Op: isa.Jr, Imm: 1}, 0, false},
		{isa.Ins{Op: isa.Hvc, A: 1}, 0, false},
		{isa.Ins{Op: isa.Clk, B: 1}, 0, false},
	} {
		if w, ok := isa.Encode(c.x); w != c.w || ok != c.ok {
			t.Errorf("Encode(%+v): %#x %t, not %#x %t", c.x, w, ok, c.w, c.ok)
		}
	}
}

// P2.1 and P2.2, Encode and Line: all edges of all fields together; an instruction has a word and a text, or neither.
func TestEncodeLine(t *testing.T) {
	for _, op := range edgeOps() {
		for _, a := range edgeRegs() {
			for _, b := range edgeRegs() {
				for _, imm := range edgeImms() {
					x := isa.Ins{Op: op, A: a, B: b, Imm: imm}
					want, text, right := uint32(0), "", isTold(x)
					if right {
						want, text = wordTold(x), textTold(x)
					}
					if w, ok := isa.Encode(x); w != want || ok != right {
						t.Fatalf("Encode(%+v): %#x %t, not %#x %t", x, w, ok, want, right)
					}
					if s := isa.Line(x); s != text {
						t.Fatalf("Line(%+v): %q, not %q", x, s, text)
					}
				}
			}
		}
	}
}

// P2.1, Decode: every Op, A and B of a word, with many Imms; what an operation doesn't use makes the word none's.
func TestDecode(t *testing.T) {
	for low := range 1 << 16 {
		for _, imm := range edgeImms() {
			w := uint32(uint16(imm))<<16 | uint32(low)
			want := isa.Ins{Op: low % 256, A: low / 256 % 16, B: low / 4096, Imm: int(uint16(imm))}
			right := isTold(want)
			if !right {
				want = isa.Ins{}
			}
			if x, ok := isa.Decode(w); x != want || ok != right {
				t.Fatalf("Decode(%#x): %+v %t, not %+v %t", w, x, ok, want, right)
			}
		}
	}
}

// P2.1, Decode: every Imm of every operation, with all other fields 0.
func TestDecodeImms(t *testing.T) {
	for op := range 29 {
		for imm := range 1 << 16 {
			x := isa.Ins{Op: op, Imm: imm}
			y, ok := isa.Decode(uint32(imm<<16 | op))
			if right := isTold(x); ok != right || right && y != x || !right && y != (isa.Ins{}) {
				t.Fatalf("op %d, imm %d: %+v %t", op, imm, y, ok)
			}
		}
	}
}

// P2.1, Signed: every number of 16 bits, and Imms beyond them, by their lowest 16 bits; the other fields don't matter.
func TestSigned(t *testing.T) {
	for _, c := range []struct{ imm, want int }{
		{0, 0}, {5, 5}, {32767, 32767}, {32768, -32768}, {32769, -32767}, {65535, -1}, {65536, 0}, {65537, 1}, {98303, 32767}, {98304, -32768}, {-1, -1}, {-32768, -32768}, {-32769, 32767}, {-65536, 0}, {1 << 32, 0}, {1<<32 + 32768, -32768}, {math.MaxInt, -1}, {math.MinInt, 0}, {math.MinInt + 32767, 32767},
	} {
		for _, x := range []isa.Ins{{Imm: c.imm}, {Op: isa.AddI, A: 1, B: 2, Imm: c.imm}, {Op: -1, A: -1, B: 99, Imm: c.imm}} {
			if n := isa.Signed(x); n != c.want {
				t.Errorf("Signed(%+v): %d, not %d", x, n, c.want)
			}
		}
	}
	for imm := range 1 << 16 {
		want := imm
		if imm >= 32768 {
			want = imm - 65536
		}
		if n := isa.Signed(isa.Ins{Imm: imm}); n != want {
			t.Fatalf("Signed of %d: %d", imm, n)
		}
	}
}

// P2.2, Line: the texts by hand.
func TestLineExamples(t *testing.T) {
	for _, c := range []struct {
		x    isa.Ins
		want string
	}{
		{isa.Ins{Op: isa.Nop}, "nop"},
		{isa.Ins{Op: isa.Li, A: 15, Imm: 65535}, "li r15 65535"},
		{isa.Ins{Op: isa.Xor, A: 0, B: 10, Imm: 15}, "xor r0 r10 r15"},
		{isa.Ins{Op: isa.AddI, A: 1, B: 2, Imm: 65535}, "addi r1 r2 -1"},
		{isa.Ins{Op: isa.Ld, Imm: 32767}, "ld r0 r0 32767"},
		{isa.Ins{Op: isa.StB, Imm: 32768}, "stb r0 r0 -32768"},
		{isa.Ins{Op: isa.Jal, A: 14, Imm: 0xfffc}, "jal r14 -4"},
		{isa.Ins{Op: isa.Jr, A: 14}, "jr r14"},
		{isa.Ins{Op: isa.Hvc, Imm: 32768}, "hvc 32768"},
		{isa.Ins{Op: isa.Clk, A: 3}, "clk r3"},
		{isa.Ins{Op: isa.Mrs, A: 3}, "mrs r3 0"},
		{isa.Ins{Op: isa.Jr, A: 14, Imm: 1}, ""},
		{isa.Ins{Op: 28}, ""},
		{isa.Ins{Op: -1}, ""},
	} {
		if s := isa.Line(c.x); s != c.want {
			t.Errorf("Line(%+v): %q, not %q", c.x, s, c.want)
		}
	}
}

// P2.1 and P2.2: what is encoded is decoded, what is told is read, as it was.
func TestBackAgain(t *testing.T) {
	for _, x := range someIns() {
		w, has := isa.Encode(x)
		if y, ok := isa.Decode(w); !has || !ok || y != x {
			t.Fatalf("%+v: %#x, and decoded %+v", x, w, y)
		}
		if y, ok := isa.Read(isa.Line(x)); !ok || y != x {
			t.Fatalf("%+v: %q, and read %+v", x, isa.Line(x), y)
		}
	}
}

// P2.2, Read: texts that are no instruction's.
func TestReadWrong(t *testing.T) {
	for _, s := range []string{
		"", " ", "  ", "\n", "\t", "#", "r1", "0", "stop", "NOP", "Nop", "no", "nopp", "addi", "n\x00p", "\xff",
		"nop ", " nop", "nop  ", "nop\n", "nop\r", "nop\t", "nop r0", "nop 0", "nop #", "wfi r0", "eret 0", "halt halt",
		"li", "li ", "li r1", "li r1 ", "li  r1 5", "li r1  5", " li r1 5", "li r1 5 ", "li r1 5 6", "li\tr1 5", "li r1\t5", "li r1,5", "lir1 5", "li r15",
		"li r1 65536", "li r1 -1", "li r1 -0", "li r1 +0", "li r1 +1", "li r1 00", "li r1 01", "li r1 0x1", "li r1 1_0", "li r1 1.0", "li r1 1e1", "li r1 r1", "li r1 five", "li r1 \xd9\xa3",
		"li 1 0", "li r 0", "li r-1 0", "li r-0 0", "li r+1 0", "li r01 0", "li r00 0", "li r16 0", "li r17 0", "li r99 0", "li r100 0", "li rr1 0", "li R1 0", "li x1 0", "li r1r 0", "li r0x1 0", "li r 1 0",
		"li r1 18446744073709551616", "li r1 4294967296", "li r1 65541", "li r4294967297 0", "li r18446744073709551617 0", "li r99999999999999999999999999 0",
		"add r1 r2", "add r1 r2 3", "add r1 2 r3", "add 1 r2 r3", "add r1 r2 r16", "add r1 r2 r3 r4", "add r1 r2 r03", "add r1 r2 -3", "add r1 r2 r-3", "add r1  r2 r3", "add r1 r2  r3",
		"addi r1 r2", "addi r1 r2 r3", "addi r1 r2 32768", "addi r1 r2 65535", "addi r1 r2 65536", "addi r1 r2 -32769", "addi r1 r2 -65536", "addi r1 r2 -0", "addi r1 r2 -01", "addi r1 r2 01", "addi r1 r2 +1", "addi r1 r2 --1", "addi r1 r2 -", "addi r1 r2 - 1", "addi r1 r2 -1 ", "addi r1 r2 9223372036854775808", "addi r1 r2 -9223372036854775809", "addi r1 -1",
		"jal r1", "jal r1 r2", "jal r1 r2 3", "jal r1 32768", "jr", "jr r16", "jr r1 0", "jr 1", "hvc", "hvc r1", "hvc -1", "hvc 65536", "hvc 00", "hvc 1 2", "clk", "clk r1 0", "clk 1", "msr 1 r3", "msr r3", "mrs r3 r1", "mrs r3 -1",
	} {
		if x, ok := isa.Read(s); ok || x != (isa.Ins{}) {
			t.Errorf("Read(%q): %+v %t", s, x, ok)
		}
	}
}

// P2.2, Read: all numbers around the bounds of each kind.
func TestReadNumbers(t *testing.T) {
	for n := -70000; n <= 140000; n++ {
		for _, c := range []struct {
			text        string
			x           isa.Ins
			least, most int
		}{
			{"li r1 ", isa.Ins{Op: isa.Li, A: 1, Imm: n}, 0, 65535},
			{"hvc ", isa.Ins{Op: isa.Hvc, Imm: n}, 0, 65535},
			{"addi r1 r2 ", isa.Ins{Op: isa.AddI, A: 1, B: 2, Imm: n & 0xffff}, -32768, 32767},
			{"jal r9 ", isa.Ins{Op: isa.Jal, A: 9, Imm: n & 0xffff}, -32768, 32767},
			{"shl r3 r4 r", isa.Ins{Op: isa.Shl, A: 3, B: 4, Imm: n}, 0, 15},
			{"jr r", isa.Ins{Op: isa.Jr, A: n}, 0, 15},
		} {
			want, right := c.x, n >= c.least && n <= c.most
			if !right {
				want = isa.Ins{}
			}
			if x, ok := isa.Read(c.text + strconv.Itoa(n)); x != want || ok != right {
				t.Fatalf("Read(%q): %+v %t, not %+v %t", c.text+strconv.Itoa(n), x, ok, want, right)
			}
		}
	}
}

// forms: of each operation, what its texts are like (but for the bounds of what is in decimal).
func forms() []*regexp.Regexp {
	like := map[rune]string{'a': " r(0|[1-9][0-9]*)", 'b': " r(0|[1-9][0-9]*)", 'c': " r(0|[1-9][0-9]*)", 'n': " (0|[1-9][0-9]*)", 's': " (0|-?[1-9][0-9]*)"}
	var list []*regexp.Regexp
	for _, o := range told {
		form := `\A` + o.name
		for _, use := range o.uses {
			form += like[use]
		}
		list = append(list, regexp.MustCompile(form+`\z`))
	}
	return list
}

// readTold: the instruction of a text by its form and the bounds of its numbers.
func readTold(list []*regexp.Regexp, text string) (isa.Ins, bool) {
	for op, form := range list {
		parts := form.FindStringSubmatch(text)
		if parts == nil {
			continue
		}
		x := isa.Ins{Op: op}
		for i, use := range told[op].uses {
			n, err := strconv.ParseInt(parts[i+1], 10, 32)
			if err != nil || use == 's' && (n < -32768 || n > 32767) {
				return isa.Ins{}, false
			}
			switch use {
			case 'a':
				x.A = int(n)
			case 'b':
				x.B = int(n)
			case 's':
				x.Imm = int(n & 0xffff)
			default:
				x.Imm = int(n)
			}
		}
		if !isTold(x) {
			return isa.Ins{}, false
		}
		return x, true
	}
	return isa.Ins{}, false
}

// P2.2, Read: texts with a byte more, a byte less, or another byte, at every place.
func TestReadNearly(t *testing.T) {
	list := forms()
	try := func(text string) {
		want, right := readTold(list, text)
		if x, ok := isa.Read(text); x != want || ok != right {
			t.Errorf("Read(%q): %+v %t, not %+v %t", text, x, ok, want, right)
		}
	}
	for op := range told {
		for _, x := range []isa.Ins{{Op: op}, {Op: op, A: 1}, {Op: op, A: 15, B: 10, Imm: 15}, {Op: op, A: 1, B: 1, Imm: 1}, {Op: op, A: 9, Imm: 6553}, {Op: op, A: 2, B: 3, Imm: 65535}, {Op: op, A: 2, B: 3, Imm: 32768}} {
			if !isTold(x) {
				continue
			}
			text := textTold(x)
			try(text)
			for at := range len(text) + 1 {
				if at < len(text) {
					try(text[:at] + text[at+1:])
				}
				for _, c := range []byte(" 0159-+r#a\n\r\t\x00\xff") {
					try(text[:at] + string([]byte{c}) + text[at:])
					if at < len(text) {
						try(text[:at] + string([]byte{c}) + text[at+1:])
					}
				}
			}
		}
	}
}

// P2.2, Read and P1: texts that are very long.
func TestReadLong(t *testing.T) {
	long := strings.Repeat("1", 1<<20)
	for _, s := range []string{long, "li r1 " + long, "li r" + long, "li r1 " + strings.Repeat("0", 1<<20), strings.Repeat(" ", 1<<20), "nop" + strings.Repeat(" ", 1<<20), "jr " + strings.Repeat("r", 1<<20), "addi r1 r2 " + strings.Repeat("-", 1<<20)} {
		if x, ok := isa.Read(s); ok || x != (isa.Ins{}) {
			t.Errorf("Read(%q ..): %+v", s[:20], x)
		}
	}
}

// P2.2, Assemble: lines with and without instructions, with and without a last line end.
func TestAssemble(t *testing.T) {
	for _, c := range []struct {
		text string
		want []uint32
	}{
		{"", nil},
		{"\n", nil},
		{"\n\n\n", nil},
		{"#", nil},
		{"# li r1 5", nil},
		{"#\n##\n# nop\n", nil},
		{"nop", []uint32{0}},
		{"nop\n", []uint32{0}},
		{"\nnop", []uint32{0}},
		{"nop\n\n", []uint32{0}},
		{"nop\nhalt", []uint32{0, 27}},
		{"nop\nhalt\n", []uint32{0, 27}},
		{"#nop\nhalt\n#", []uint32{27}},
		{"\n\n#\xff\x00\r\nli r1 5\n\n#\naddi r1 r2 -1", []uint32{0x00050101, 0xffff210b}},
	} {
		if b, n, e := isa.Assemble(c.text); !bytes.Equal(b, word.Bytes(c.want...)) || n != 0 || e != api.OK {
			t.Errorf("Assemble(%q): % x %d %d", c.text, b, n, e)
		}
	}
}

// P2.2, Assemble: the first line that is wrong, told from 1 on, silent lines counted.
func TestAssembleWrong(t *testing.T) {
	for _, c := range []struct {
		text string
		line int
	}{
		{"x", 1},
		{"x\n", 1},
		{" ", 1},
		{" \n", 1},
		{"\r\n", 1},
		{" #", 1},
		{" nop", 1},
		{"nop #", 1},
		{"nop\r\nnop\r\n", 1},
		{"nop\n ", 2},
		{"\nx", 2},
		{"#\n\nnop\nnop r1\nnop", 4},
		{"nop\nli r1 65536\nli r1 65537\n", 2},
		{"nop\nnop\naddi r1 r2 -0", 3},
		{"nop\x00nop", 1},
		{"li r1\n5\n", 1},
		{strings.Repeat("nop\n", 9999) + "nop \nnop", 10000},
	} {
		if b, n, e := isa.Assemble(c.text); len(b) != 0 || n != c.line || e != api.ErrForm {
			t.Errorf("Assemble(%.40q): %d bytes %d %d, not line %d", c.text, len(b), n, e, c.line)
		}
	}
}

// P2.2, Assemble: texts of 2^20 bytes, and of a byte more.
func TestAssembleLong(t *testing.T) {
	const most = 1 << 20
	for i, text := range []string{strings.Repeat("nop\n", most/4), strings.Repeat("\n", most), strings.Repeat("#", most), strings.Repeat("\n", most-4) + "halt"} {
		want := strings.Count(text, "nop") + strings.Count(text, "halt")
		if b, n, e := isa.Assemble(text); len(b) != 4*want || n != 0 || e != api.OK {
			t.Errorf("text %d of 2^20 bytes: %d bytes %d %d", i, len(b), n, e)
		}
		for _, more := range []string{"\n" + text, "\n\n" + text, strings.Repeat("\n", most) + text} {
			if b, n, e := isa.Assemble(more); len(b) != 0 || n != 0 || e != api.ErrMany {
				t.Errorf("text %d of %d bytes: %d bytes %d %d", i, len(more), len(b), n, e)
			}
		}
	}
	if b, n, e := isa.Assemble(strings.Repeat("x", most)); len(b) != 0 || n != 1 || e != api.ErrForm {
		t.Error("a wrong text of 2^20 bytes:", n, e)
	}
}

// P2.2 and rule 2: of a text that is too long and has a wrong line, ErrForm is told, which the chapter names first.
func TestAssembleOrder(t *testing.T) {
	if b, n, e := isa.Assemble("nop\nstop\n" + strings.Repeat("nop\n", 1<<18)); len(b) != 0 || n != 2 || e != api.ErrForm {
		t.Error(n, e)
	}
	if b, n, e := isa.Assemble(strings.Repeat("\n", 1<<20) + "x"); len(b) != 0 || n != 1<<20+1 || e != api.ErrForm {
		t.Error(n, e)
	}
}

// P2.2, Show: whole words of instructions, and what isn't.
func TestShow(t *testing.T) {
	for _, c := range []struct {
		b    []byte
		want string
		ok   bool
	}{
		{nil, "", true},
		{[]byte{}, "", true},
		{[]byte{0, 0, 0, 0}, "nop\n", true},
		{[]byte{11, 0x21, 0xff, 0xff, 27, 0, 0, 0}, "addi r1 r2 -1\nhalt\n", true},
		{[]byte{0}, "", false},
		{[]byte{0, 0}, "", false},
		{[]byte{0, 0, 0}, "", false},
		{[]byte{0, 0, 0, 0, 0}, "", false},
		{[]byte{0, 0, 0, 0, 0, 0, 0}, "", false},
		{[]byte{28, 0, 0, 0}, "", false},
		{[]byte{255, 255, 255, 255}, "", false},
		{[]byte{0, 1, 0, 0}, "", false},
		{[]byte{3, 0, 16, 0}, "", false},
		{[]byte{0, 0, 0, 0, 28, 0, 0, 0}, "", false},
		{[]byte{28, 0, 0, 0, 0, 0, 0, 0}, "", false},
	} {
		if s, ok := isa.Show(c.b); s != c.want || ok != c.ok {
			t.Errorf("Show(% x): %q %t", c.b, s, ok)
		}
	}
}

// P2.3: instructions' lines are assembled as their bytes, and shown as they were; silent lines are gone.
func TestAssembleShow(t *testing.T) {
	for list := range slices.Chunk(someIns(), 1000) {
		var plain, mixed strings.Builder
		var words []uint32
		for i, x := range list {
			plain.WriteString(textTold(x) + "\n")
			mixed.WriteString(strings.Repeat("\n", i%3) + "# " + told[x.Op].name + "\n" + textTold(x) + "\n")
			words = append(words, wordTold(x))
		}
		for _, text := range []string{plain.String(), mixed.String(), strings.TrimSuffix(plain.String(), "\n")} {
			b, n, e := isa.Assemble(text)
			if !bytes.Equal(b, word.Bytes(words...)) || n != 0 || e != api.OK {
				t.Fatalf("%.40q: %d bytes %d %d", text, len(b), n, e)
			}
			if s, ok := isa.Show(b); !ok || s != plain.String() {
				t.Fatalf("%.40q is shown as %.40q", text, s)
			}
		}
	}
}

// P2.3: what is shown is assembled as its bytes, of words as they come.
func TestShowAssemble(t *testing.T) {
	w, shown := uint32(1), 0
	for range 200000 {
		w = w*1664525 + 1013904223
		v := w&^0xff | w>>8%30
		if w>>24%2 == 0 {
			v &= 0x000f00ff
		}
		b := word.Bytes(v)
		s, ok := isa.Show(b)
		if _, is := isa.Decode(v); is != ok {
			t.Fatalf("%#x: shown %t, decoded %t", v, ok, is)
		}
		if !ok {
			continue
		}
		shown++
		if c, n, e := isa.Assemble(s); !bytes.Equal(c, b) || n != 0 || e != api.OK {
			t.Fatalf("%#x, shown as %q: % x %d %d", v, s, c, n, e)
		}
	}
	if shown < 10000 {
		t.Error("only", shown, "were shown")
	}
}

// P2.3: Show leaves its bytes, and those behind them in their memory; its text stays when they are changed.
func TestShowMemory(t *testing.T) {
	all := []byte{0, 0, 0, 0, 27, 0, 0, 0, 28, 1, 2, 3}
	before := bytes.Clone(all)
	s, ok := isa.Show(all[:8])
	if !ok || !bytes.Equal(all, before) {
		t.Errorf("%t % x", ok, all)
	}
	if _, ok := isa.Show(all); ok || !bytes.Equal(all, before) {
		t.Errorf("%t % x", ok, all)
	}
	clear(all)
	if s != "nop\nhalt\n" {
		t.Errorf("%q", s)
	}
}

// P2.3: Assemble answers memory of its own each time, spare room too.
func TestAssembleMemory(t *testing.T) {
	const text = "li r1 5\nhalt\n"
	first, _, _ := isa.Assemble(text)
	second, _, _ := isa.Assemble(text)
	spare := first[:cap(first)]
	for i := range spare {
		spare[i] = 0xee
	}
	third, _, _ := isa.Assemble(text)
	for _, b := range [][]byte{second, third} {
		if !bytes.Equal(b, []byte{1, 1, 5, 0, 27, 0, 0, 0}) {
			t.Errorf("answers share memory: % x", b)
		}
	}
}
