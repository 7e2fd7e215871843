package alu_test

import (
	"bytes"
	"math"
	"math/big"
	"slices"
	"testing"

	"warder/alu"
	"warder/isa"
	"warder/word"
)

// wordOf: the word of an instruction's text.
func wordOf(t *testing.T, text string) uint32 {
	t.Helper()
	x, read := isa.Read(text)
	w, has := isa.Encode(x)
	if !read || !has {
		t.Fatalf("%q is no instruction's text", text)
	}
	return w
}

// codeOf: the bytes of instructions' lines.
func codeOf(t *testing.T, text string) []byte {
	t.Helper()
	b, line, e := isa.Assemble(text)
	if e != 0 {
		t.Fatalf("line %d of %q is no instruction's text", line, text)
	}
	return b
}

// mixed: a state in which no two registers are the same.
func mixed() alu.State {
	return alu.State{R: [16]uint32{
		0, 1, 2, 0xffffffff, 0x80000000, 0x7fffffff, 31, 32,
		33, 0xfffffffe, 0x12345678, 0xabcdef98, 0x10000, 63, 64, 0x55555555,
	}, PC: 1000}
}

// with: a state with a value in a register.
func with(s alu.State, r int, value uint32) alu.State {
	s.R[r] = value
	return s
}

// at: a state with another PC.
func at(s alu.State, pc uint32) alu.State {
	s.PC = pc
	return s
}

// P3.1: the kinds of effects are counted as told.
func TestKinds(t *testing.T) {
	list := []int{alu.ENone, alu.ELoad, alu.ELoadB, alu.EStore, alu.EStoreB, alu.EHvc, alu.EWfi, alu.EClk, alu.EMsr, alu.EMrs, alu.EEret, alu.EHalt, alu.EBad}
	for i, kind := range list {
		if kind != i {
			t.Errorf("kind %d is %d", i, kind)
		}
	}
	if len(list) != 13 {
		t.Error(len(list))
	}
}

// P3.1, Step: what is put into a register, by hand: ordinary registers and the edges.
func TestStepRegisters(t *testing.T) {
	for _, c := range []struct {
		text  string
		reg   int
		value uint32
	}{
		{"nop", 0, 0},
		{"li r1 7", 1, 7},
		{"li r11 0", 11, 0},
		{"li r3 65535", 3, 65535},
		{"li r0 32768", 0, 32768},
		{"lui r10 0", 10, 0x5678},
		{"lui r10 65535", 10, 0xffff5678},
		{"lui r3 1", 3, 0x1ffff},
		{"lui r0 32768", 0, 0x80000000},
		{"add r2 r6 r7", 2, 63},
		{"add r0 r3 r1", 0, 0},
		{"add r0 r4 r4", 0, 0},
		{"add r0 r3 r3", 0, 0xfffffffe},
		{"add r0 r5 r1", 0, 0x80000000},
		{"sub r2 r7 r6", 2, 1},
		{"sub r2 r6 r7", 2, 0xffffffff},
		{"sub r2 r0 r4", 2, 0x80000000},
		{"sub r2 r0 r3", 2, 1},
		{"and r2 r10 r11", 2, 0x12345678 & 0xabcdef98},
		{"or r2 r10 r11", 2, 0x12345678 | 0xabcdef98},
		{"xor r2 r10 r11", 2, 0x12345678 ^ 0xabcdef98},
		{"and r2 r15 r3", 2, 0x55555555},
		{"or r2 r15 r3", 2, 0xffffffff},
		{"xor r2 r15 r3", 2, 0xaaaaaaaa},
		{"shl r0 r10 r0", 0, 0x12345678},
		{"shl r0 r10 r1", 0, 0x2468acf0},
		{"shl r0 r3 r6", 0, 0x80000000},
		{"shl r0 r9 r6", 0, 0},
		{"shl r0 r10 r7", 0, 0x12345678},
		{"shl r0 r10 r8", 0, 0x2468acf0},
		{"shl r0 r3 r13", 0, 0x80000000},
		{"shl r0 r10 r14", 0, 0x12345678},
		{"shl r0 r1 r3", 0, 0x80000000},
		{"shl r0 r10 r4", 0, 0x12345678},
		{"shl r0 r10 r12", 0, 0x12345678},
		{"shr r0 r10 r0", 0, 0x12345678},
		{"shr r0 r10 r1", 0, 0x091a2b3c},
		{"shr r0 r4 r6", 0, 1},
		{"shr r0 r5 r6", 0, 0},
		{"shr r0 r3 r1", 0, 0x7fffffff},
		{"shr r0 r10 r7", 0, 0x12345678},
		{"shr r0 r10 r8", 0, 0x091a2b3c},
		{"shr r0 r3 r13", 0, 1},
		{"shr r0 r10 r14", 0, 0x12345678},
		{"shr r0 r3 r3", 0, 1},
		{"mul r0 r6 r7", 0, 992},
		{"mul r0 r12 r12", 0, 0},
		{"mul r0 r3 r3", 0, 1},
		{"mul r0 r4 r2", 0, 0},
		{"mul r0 r5 r2", 0, 0xfffffffe},
		{"mul r0 r9 r8", 0, 0xffffffbe},
		{"addi r0 r6 5", 0, 36},
		{"addi r0 r6 -5", 0, 26},
		{"addi r0 r0 -1", 0, 0xffffffff},
		{"addi r2 r0 -32768", 2, 0xffff8000},
		{"addi r2 r0 32767", 2, 32767},
		{"addi r2 r3 1", 2, 0},
		{"addi r2 r3 32767", 2, 32766},
		{"addi r2 r4 -1", 2, 0x7fffffff},
		{"addi r2 r10 0", 2, 0x12345678},
	} {
		want := at(with(mixed(), c.reg, c.value), 1004)
		if s, e := alu.Step(mixed(), wordOf(t, c.text)); s != want || e != (alu.Effect{}) {
			t.Errorf("%s: %x %+v, not %x", c.text, s, e, want)
		}
	}
}

// P3.1, Step: A, B and the Imm name one register, or two of them do.
func TestStepSameRegister(t *testing.T) {
	const v = uint32(0x80000021)
	for _, c := range []struct {
		text string
		want uint32
	}{
		{"add r5 r5 r5", 0x42},
		{"sub r5 r5 r5", 0},
		{"and r5 r5 r5", v},
		{"or r5 r5 r5", v},
		{"xor r5 r5 r5", 0},
		{"shl r5 r5 r5", 0x42},
		{"shr r5 r5 r5", 0x40000010},
		{"mul r5 r5 r5", 0x441},
		{"addi r5 r5 5", v + 5},
		{"sub r5 r5 r6", v - 3},
		{"sub r5 r6 r5", 0x7fffffe2},
		{"sub r5 r6 r6", 0},
		{"shl r5 r6 r5", 6},
		{"lui r5 5", 0x50021},
	} {
		s := alu.State{PC: 4}
		s.R[5], s.R[6] = v, 3
		want := at(with(s, 5, c.want), 8)
		if got, e := alu.Step(s, wordOf(t, c.text)); got != want || e != (alu.Effect{}) {
			t.Errorf("%s: %x %+v, not %x", c.text, got, e, want)
		}
	}
	for _, c := range []struct {
		text string
		want alu.Effect
	}{
		{"ld r5 r5 5", alu.Effect{Kind: alu.ELoad, Reg: 5, Addr: v + 5}},
		{"ldb r5 r5 5", alu.Effect{Kind: alu.ELoadB, Reg: 5, Addr: v + 5}},
		{"st r5 r5 5", alu.Effect{Kind: alu.EStore, Addr: v + 5, Value: v}},
		{"stb r5 r5 5", alu.Effect{Kind: alu.EStoreB, Addr: v + 5, Value: 0x21}},
	} {
		s := alu.State{PC: 4}
		s.R[5] = v
		if got, e := alu.Step(s, wordOf(t, c.text)); got != at(s, 8) || e != c.want {
			t.Errorf("%s: %x %+v, not %+v", c.text, got, e, c.want)
		}
	}
}

// P3.1, Step: branches, taken and not taken, and jumps; with a PC in the midst, near 0, and near 2^32.
func TestStepBranches(t *testing.T) {
	for _, c := range []struct {
		text     string
		pc, next uint32
	}{
		{"beq r1 r1 5", 1000, 1020},
		{"beq r1 r2 5", 1000, 1004},
		{"beq r1 r1 0", 1000, 1000},
		{"beq r1 r1 1", 1000, 1004},
		{"beq r1 r1 -1", 1000, 996},
		{"beq r1 r1 -250", 1000, 0},
		{"beq r1 r1 -251", 1000, 0xfffffffc},
		{"beq r1 r1 32767", 1000, 132068},
		{"beq r1 r1 -32768", 1000, 0xfffe03e8},
		{"beq r4 r0 5", 1000, 1004},
		{"beq r3 r9 5", 1000, 1004},
		{"bne r1 r2 5", 1000, 1020},
		{"bne r1 r1 5", 1000, 1004},
		{"bne r4 r0 -5", 1000, 980},
		{"blt r1 r2 5", 1000, 1020},
		{"blt r2 r1 5", 1000, 1004},
		{"blt r1 r1 5", 1000, 1004},
		{"blt r1 r3 5", 1000, 1020},
		{"blt r3 r1 5", 1000, 1004},
		{"blt r5 r4 5", 1000, 1020},
		{"blt r4 r5 5", 1000, 1004},
		{"blt r9 r3 -5", 1000, 980},
		{"blt r0 r4 5", 1000, 1020},
		{"jr r0", 1000, 0},
		{"jr r1", 1000, 1},
		{"jr r3", 1000, 0xffffffff},
		{"jr r10", 1000, 0x12345678},
		{"nop", 0xfffffffc, 0},
		{"nop", 0xffffffff, 3},
		{"nop", 0xfffffff8, 0xfffffffc},
		{"nop", 1, 5},
		{"nop", 0, 4},
		{"beq r1 r1 1", 0xfffffffc, 0},
		{"beq r1 r1 3", 0xfffffffd, 9},
		{"beq r1 r2 3", 0xfffffffd, 1},
		{"bne r1 r2 -1", 0, 0xfffffffc},
		{"bne r1 r2 -1", 3, 0xffffffff},
		{"blt r1 r2 32767", 0xffffffff, 131067},
		{"blt r2 r1 32767", 0xffffffff, 3},
		{"jr r10", 0xfffffffe, 0x12345678},
	} {
		if s, e := alu.Step(at(mixed(), c.pc), wordOf(t, c.text)); s != at(mixed(), c.next) || e != (alu.Effect{}) {
			t.Errorf("%s at %d: %x %+v, not PC %d", c.text, c.pc, s, e, c.next)
		}
	}
	for _, c := range []struct {
		text            string
		reg             int
		pc, value, next uint32
	}{
		{"jal r14 5", 14, 1000, 1004, 1020},
		{"jal r14 -5", 14, 1000, 1004, 980},
		{"jal r0 0", 0, 1000, 1004, 1000},
		{"jal r15 -32768", 15, 0, 4, 0xfffe0000},
		{"jal r15 32767", 15, 0xfffffffc, 0, 131064},
		{"jal r15 1", 15, 0xffffffff, 3, 3},
	} {
		want := at(with(mixed(), c.reg, c.value), c.next)
		if s, e := alu.Step(at(mixed(), c.pc), wordOf(t, c.text)); s != want || e != (alu.Effect{}) {
			t.Errorf("%s at %d: %x %+v, not %x", c.text, c.pc, s, e, want)
		}
	}
}

// P3.1, Step: effects; the state but for its PC stays, a loaded register too.
func TestStepEffects(t *testing.T) {
	for _, c := range []struct {
		text string
		want alu.Effect
	}{
		{"ld r4 r6 9", alu.Effect{Kind: alu.ELoad, Reg: 4, Addr: 40}},
		{"ld r0 r6 -31", alu.Effect{Kind: alu.ELoad}},
		{"ld r15 r6 -32", alu.Effect{Kind: alu.ELoad, Reg: 15, Addr: 0xffffffff}},
		{"ld r4 r3 1", alu.Effect{Kind: alu.ELoad, Reg: 4}},
		{"ld r4 r0 -32768", alu.Effect{Kind: alu.ELoad, Reg: 4, Addr: 0xffff8000}},
		{"ldb r4 r6 9", alu.Effect{Kind: alu.ELoadB, Reg: 4, Addr: 40}},
		{"ldb r4 r3 32767", alu.Effect{Kind: alu.ELoadB, Reg: 4, Addr: 32766}},
		{"ldb r4 r0 -1", alu.Effect{Kind: alu.ELoadB, Reg: 4, Addr: 0xffffffff}},
		{"st r10 r6 9", alu.Effect{Kind: alu.EStore, Addr: 40, Value: 0x12345678}},
		{"st r0 r6 -32", alu.Effect{Kind: alu.EStore, Addr: 0xffffffff}},
		{"st r3 r3 2", alu.Effect{Kind: alu.EStore, Addr: 1, Value: 0xffffffff}},
		{"stb r10 r6 9", alu.Effect{Kind: alu.EStoreB, Addr: 40, Value: 0x78}},
		{"stb r11 r6 -32", alu.Effect{Kind: alu.EStoreB, Addr: 0xffffffff, Value: 0x98}},
		{"stb r12 r6 0", alu.Effect{Kind: alu.EStoreB, Addr: 31}},
		{"stb r3 r6 0", alu.Effect{Kind: alu.EStoreB, Addr: 31, Value: 255}},
		{"hvc 0", alu.Effect{Kind: alu.EHvc}},
		{"hvc 20", alu.Effect{Kind: alu.EHvc, Value: 20}},
		{"hvc 65535", alu.Effect{Kind: alu.EHvc, Value: 65535}},
		{"wfi", alu.Effect{Kind: alu.EWfi}},
		{"clk r0", alu.Effect{Kind: alu.EClk}},
		{"clk r15", alu.Effect{Kind: alu.EClk, Reg: 15}},
		{"msr r10 3", alu.Effect{Kind: alu.EMsr, Addr: 3, Value: 0x12345678}},
		{"msr r3 65535", alu.Effect{Kind: alu.EMsr, Addr: 65535, Value: 0xffffffff}},
		{"mrs r10 3", alu.Effect{Kind: alu.EMrs, Reg: 10, Addr: 3}},
		{"mrs r15 32768", alu.Effect{Kind: alu.EMrs, Reg: 15, Addr: 32768}},
		{"eret", alu.Effect{Kind: alu.EEret}},
		{"halt", alu.Effect{Kind: alu.EHalt}},
	} {
		w := wordOf(t, c.text)
		for _, pc := range []uint32{0, 1000, 0xfffffffb, 0xfffffffc, 0xffffffff} {
			if s, e := alu.Step(at(mixed(), pc), w); s != at(mixed(), pc+4) || e != c.want {
				t.Errorf("%s at %d: %x %+v, not %+v", c.text, pc, s, e, c.want)
			}
		}
	}
}

// P3.1, Step: a word that is no instruction's tells EBad, and the state stays.
func TestStepBad(t *testing.T) {
	for _, w := range []uint32{
		28, 29, 0x80, 0xff, 0xffffffff, 0x100, 0x1000, 0x10000, // none of these Ops; a nop with an A, a B, an Imm
		0x00001001, 0x00100003, 0xffff0003, 0x00001013, 0x00010014, 0x00000115, 0x00001015, 0x00010016, 0x00010017, 0x00001018, 0x00001019, 0x0000011a, 0x0001001b,
	} {
		for _, pc := range []uint32{0, 1000, 0xffffffff} {
			if s, e := alu.Step(at(mixed(), pc), w); s != at(mixed(), pc) || e != (alu.Effect{Kind: alu.EBad}) {
				t.Errorf("%#x: %x %+v", w, s, e)
			}
		}
	}
}

// round: a number as a word, by the rest at 2^32.
func round(n *big.Int) uint32 {
	return uint32(new(big.Int).Mod(n, big.NewInt(1<<32)).Uint64())
}

// combineTold: two registers combined, by big numbers or bit by bit.
func combineTold(name string, b, c uint32) uint32 {
	x, y := big.NewInt(int64(b)), big.NewInt(int64(c))
	power := new(big.Int).Exp(big.NewInt(2), big.NewInt(int64(c%32)), nil)
	switch name {
	case "add":
		return round(x.Add(x, y))
	case "sub":
		return round(x.Sub(x, y))
	case "mul":
		return round(x.Mul(x, y))
	case "shl":
		return round(x.Mul(x, power))
	case "shr":
		return round(x.Div(x, power))
	case "and":
		return round(x.And(x, y))
	case "or":
		return round(x.Or(x, y))
	}
	return round(x.Xor(x, y))
}

// stepTold: the chapter's table of what is done, by the names of operations.
func stepTold(s alu.State, x isa.Ins, name string) (alu.State, alu.Effect) {
	n := int64(int16(uint16(x.Imm)))
	a, b, imm := s.R[x.A], s.R[x.B], uint32(x.Imm)
	sum := round(big.NewInt(int64(b) + n))
	far := round(big.NewInt(int64(s.PC) + 4*n))
	next := round(big.NewInt(int64(s.PC) + 4))
	t, e := at(s, next), alu.Effect{}
	switch name {
	case "li":
		t.R[x.A] = imm
	case "lui":
		t.R[x.A] = imm*65536 + a%65536
	case "add", "sub", "and", "or", "xor", "shl", "shr", "mul":
		t.R[x.A] = combineTold(name, b, s.R[x.Imm])
	case "addi":
		t.R[x.A] = sum
	case "ld":
		e = alu.Effect{Kind: 1, Reg: x.A, Addr: sum}
	case "ldb":
		e = alu.Effect{Kind: 2, Reg: x.A, Addr: sum}
	case "st":
		e = alu.Effect{Kind: 3, Addr: sum, Value: a}
	case "stb":
		e = alu.Effect{Kind: 4, Addr: sum, Value: a % 256}
	case "beq", "bne", "blt":
		if name == "beq" && a == b || name == "bne" && a != b || name == "blt" && a < b {
			t.PC = far
		}
	case "jal":
		t.R[x.A], t.PC = next, far
	case "jr":
		t.PC = a
	case "hvc":
		e = alu.Effect{Kind: 5, Value: imm}
	case "wfi":
		e.Kind = 6
	case "clk":
		e = alu.Effect{Kind: 7, Reg: x.A}
	case "msr":
		e = alu.Effect{Kind: 8, Addr: imm, Value: a}
	case "mrs":
		e = alu.Effect{Kind: 9, Reg: x.A, Addr: imm}
	case "eret":
		e.Kind = 10
	case "halt":
		e.Kind = 11
	}
	return t, e
}

// nameOf: the word that an instruction's text begins with.
func nameOf(x isa.Ins) string {
	name, _, _ := bytes.Cut([]byte(isa.Line(x)), []byte(" "))
	return string(name)
}

// dice: numbers one after the other, the same each time.
type dice uint64

func (d *dice) next() uint32 {
	*d = *d*6364136223846793005 + 1442695040888963407
	return uint32(*d >> 32)
}

// value: a word, often one at an edge.
func (d *dice) value() uint32 {
	edges := []uint32{0, 1, 31, 32, 33, 0x7fff, 0x8000, 0xffff, 0x10000, 0x7fffffff, 0x80000000, 0x80000001, 0xfffffffc, 0xfffffffe, 0xffffffff}
	if w := d.next(); w%2 == 0 {
		return edges[w/2%uint32(len(edges))]
	}
	return d.next()
}

func (d *dice) state() alu.State {
	s := alu.State{PC: d.value()}
	for i := range s.R {
		s.R[i] = d.value()
	}
	return s
}

// P3.1, Step: every word of an Op, an A and a B, with Imms and states as they come, as the chapter's table tells.
func TestStepTold(t *testing.T) {
	d, done := dice(1), [28]int{}
	for low := range 1 << 16 {
		for i := range 6 {
			w := d.next()<<16 | uint32(low)
			switch i {
			case 0, 1, 2:
				w &= 0x000fffff
			case 3:
				w &= 0xffff
			}
			s := d.state()
			want, effect := s, alu.Effect{Kind: 12}
			if x, ok := isa.Decode(w); ok {
				want, effect = stepTold(s, x, nameOf(x))
				done[x.Op]++
			}
			if got, e := alu.Step(s, w); got != want || e != effect {
				t.Fatalf("Step(%x, %#x): %x %+v, not %x %+v", s, w, got, e, want, effect)
			}
		}
	}
	if slices.Contains(done[:], 0) {
		t.Error("an operation was never done:", done)
	}
}

// P3.1, Step: every Imm of the operations with a number, at a state of edges.
func TestStepImms(t *testing.T) {
	for imm := range 1 << 16 {
		for op := range 28 {
			x := isa.Ins{Op: op, Imm: imm}
			w, ok := isa.Encode(x)
			if !ok {
				continue
			}
			s := at(with(mixed(), 0, 0xffff7fff), 0xfffe0003)
			want, effect := stepTold(s, x, nameOf(x))
			if got, e := alu.Step(s, w); got != want || e != effect {
				t.Fatalf("%s: %x %+v, not %x %+v", isa.Line(x), got, e, want, effect)
			}
		}
	}
}

// P3.1, Done: every kind, those that are none's too, with every register, those that are none too.
func TestDone(t *testing.T) {
	kinds := []int{math.MinInt, math.MinInt + 1, -256, -12, -2, -1, 13, 14, 15, 255, 256, 257, 258, 1 << 32, 1<<32 + 1, 1<<32 + 2, math.MaxInt}
	for kind := range 13 {
		kinds = append(kinds, kind)
	}
	regs := []int{math.MinInt, math.MinInt + 1, -256, -16, -15, -1, 16, 17, 18, 31, 32, 256, 257, 1 << 32, 1<<32 + 1, math.MaxInt}
	for r := range 16 {
		regs = append(regs, r)
	}
	for _, kind := range kinds {
		for _, r := range regs {
			for _, value := range []uint32{0, 1, 0x45, 0x7f, 0x80, 0xff, 0x100, 0x12345, 0x89abcdef, 0xffffffff} {
				e := alu.Effect{Kind: kind, Reg: r, Addr: 0x11, Value: 0x22}
				want := mixed()
				if r >= 0 && r < 16 {
					switch kind {
					case 1, 7, 9:
						want.R[r] = value
					case 2:
						want.R[r] = value % 256
					}
				}
				if s := alu.Done(mixed(), e, value); s != want {
					t.Fatalf("Done(%+v, %#x): %x, not %x", e, value, s, want)
				}
			}
		}
	}
}

// P3.1: Step and then Done: what was asked for is in its register, and PC is as behind the step.
func TestStepDone(t *testing.T) {
	for _, c := range []struct {
		text string
		reg  int
		want uint32
	}{
		{"ld r4 r4 0", 4, 0x89abcdef},
		{"ldb r4 r4 0", 4, 0xef},
		{"clk r15", 15, 0x89abcdef},
		{"mrs r0 5", 0, 0x89abcdef},
		{"st r4 r4 0", 4, 0x80000000},
		{"stb r4 r4 0", 4, 0x80000000},
		{"msr r0 5", 0, 0},
		{"hvc 1", 0, 0},
		{"wfi", 0, 0},
		{"eret", 0, 0},
		{"halt", 0, 0},
		{"nop", 0, 0},
	} {
		s, e := alu.Step(mixed(), wordOf(t, c.text))
		if got := alu.Done(s, e, 0x89abcdef); got != at(with(mixed(), c.reg, c.want), 1004) {
			t.Errorf("%s: %x", c.text, got)
		}
	}
}

// P3.2, Run: rows that end by an effect, by a word that isn't there, by one that is no instruction's, and by most.
func TestRun(t *testing.T) {
	const loop = "li r1 4\nli r2 1\nmul r2 r2 r1\naddi r1 r1 -1\nbne r1 r0 -2\nhvc 3\nhalt\n"
	for _, c := range []struct {
		name, text string
		pc         uint32
		most       int
		r1, r2     uint32
		next       uint32
		effect     alu.Effect
		n          int
	}{
		{"the chapter's example", "li r1 7\nadd r2 r1 r1\n", 0, 2, 7, 14, 8, alu.Effect{}, 2},
		{"an effect", loop, 0, 100, 0, 24, 24, alu.Effect{Kind: alu.EHvc, Value: 3}, 14},
		{"an effect as the last step of most", loop, 0, 15, 0, 24, 24, alu.Effect{Kind: alu.EHvc, Value: 3}, 14},
		{"most just ahead of an effect", loop, 0, 14, 0, 24, 20, alu.Effect{}, 14},
		{"most in the midst", loop, 0, 7, 2, 12, 16, alu.Effect{}, 7},
		{"a most of 1", loop, 0, 1, 4, 0, 4, alu.Effect{}, 1},
		{"a most of 0", loop, 0, 0, 0, 0, 0, alu.Effect{}, 0},
		{"a most of 0 at an effect", loop, 24, 0, 0, 0, 24, alu.Effect{}, 0},
		{"a most below 0", loop, 0, -1, 0, 0, 0, alu.Effect{}, 0},
		{"the least most", loop, 0, math.MinInt, 0, 0, 0, alu.Effect{}, 0},
		{"the greatest most", loop, 0, math.MaxInt, 0, 24, 24, alu.Effect{Kind: alu.EHvc, Value: 3}, 14},
		{"an effect at once", loop, 24, 5, 0, 0, 28, alu.Effect{Kind: alu.EHalt}, 0},
		{"a most of 1 at an effect", loop, 24, 1, 0, 0, 28, alu.Effect{Kind: alu.EHalt}, 0},
		{"a load, not done yet", "li r1 7\nld r1 r1 1\nli r2 5", 0, 9, 7, 0, 8, alu.Effect{Kind: alu.ELoad, Reg: 1, Addr: 8}, 1},
		{"the code's end", "li r1 7\nli r2 5\n", 0, 9, 7, 5, 8, alu.Effect{Kind: alu.EBad}, 2},
		{"the code's end, and most", "li r1 7\nli r2 5\n", 0, 2, 7, 5, 8, alu.Effect{}, 2},
		{"a PC at the code's end", loop, 28, 5, 0, 0, 28, alu.Effect{Kind: alu.EBad}, 0},
		{"one of its bytes in the code", loop, 27, 5, 0, 0, 27, alu.Effect{Kind: alu.EBad}, 0},
		{"three of its bytes in the code", loop, 25, 5, 0, 0, 25, alu.Effect{Kind: alu.EBad}, 0},
		{"a PC beyond the code", loop, 1000, 5, 0, 0, 1000, alu.Effect{Kind: alu.EBad}, 0},
		{"a PC of 2^31", loop, 1 << 31, 5, 0, 0, 1 << 31, alu.Effect{Kind: alu.EBad}, 0},
		{"a PC near 2^32", loop, 0xfffffffc, 5, 0, 0, 0xfffffffc, alu.Effect{Kind: alu.EBad}, 0},
		{"the last PC", loop, 0xffffffff, 5, 0, 0, 0xffffffff, alu.Effect{Kind: alu.EBad}, 0},
		{"the last PC, and a most of 0", loop, 0xffffffff, 0, 0, 0, 0xffffffff, alu.Effect{}, 0},
		{"a branch out of the code", "li r1 7\nbeq r0 r0 -2\n", 0, 9, 7, 0, 0xfffffffc, alu.Effect{Kind: alu.EBad}, 2},
		{"no code", "", 0, 5, 0, 0, 0, alu.Effect{Kind: alu.EBad}, 0},
		{"no code, and a most of 0", "", 0, 0, 0, 0, 0, alu.Effect{}, 0},
		{"no code, and a most below 0", "", 8, -5, 0, 0, 8, alu.Effect{}, 0},
		{"a loop of one", "beq r0 r0 0\n", 0, 100000, 0, 0, 0, alu.Effect{}, 100000},
	} {
		s := alu.State{PC: c.pc}
		want := alu.State{PC: c.next}
		want.R[1], want.R[2] = c.r1, c.r2
		got, e, n := alu.Run(s, codeOf(t, c.text), c.most)
		if got != want || e != c.effect || n != c.n {
			t.Errorf("%s: %x %+v %d, not %x %+v %d", c.name, got, e, n, want, c.effect, c.n)
		}
	}
}

// P3.2, Run: a nil code is an empty one.
func TestRunNil(t *testing.T) {
	for _, code := range [][]byte{nil, {}, {0}, {0, 0, 0}} {
		if s, e, n := alu.Run(at(mixed(), 0), code, 5); s != at(mixed(), 0) || e != (alu.Effect{Kind: alu.EBad}) || n != 0 {
			t.Errorf("% x: %x %+v %d", code, s, e, n)
		}
	}
}

// P3.2, Run: a word that is no instruction's ends it; the state stays as ahead of it.
func TestRunBadWord(t *testing.T) {
	code := word.Bytes(0x00070101, 0xff, 27)
	want := at(with(mixed(), 1, 7), 4)
	if s, e, n := alu.Run(at(mixed(), 0), code, 5); s != want || e != (alu.Effect{Kind: alu.EBad}) || n != 1 {
		t.Errorf("%x %+v %d", s, e, n)
	}
	if s, e, n := alu.Run(at(mixed(), 0), code, 1); s != want || e != (alu.Effect{}) || n != 1 {
		t.Errorf("%x %+v %d", s, e, n)
	}
}

// P3.2, Run: words are taken at any PC, 4 times something or not.
func TestRunOddPlaces(t *testing.T) {
	plain := codeOf(t, "li r1 7\nadd r2 r1 r1\nhalt\n")
	for ahead := range 9 {
		code := append(bytes.Repeat([]byte{0xff}, ahead), plain...)
		want := alu.State{PC: uint32(ahead + 12)}
		want.R[1], want.R[2] = 7, 14
		s, e, n := alu.Run(alu.State{PC: uint32(ahead)}, code, 5)
		if s != want || e != (alu.Effect{Kind: alu.EHalt}) || n != 2 {
			t.Errorf("at %d: %x %+v %d", ahead, s, e, n)
		}
	}
}

// runTold: Step after Step.
func runTold(s alu.State, code []byte, most int) (alu.State, alu.Effect, int) {
	n := 0
	for ; n < most; n++ {
		w, ok := word.Get(code, int(s.PC))
		if !ok {
			return s, alu.Effect{Kind: 12}, n
		}
		var e alu.Effect
		if s, e = alu.Step(s, w); e.Kind != 0 {
			return s, e, n
		}
	}
	return s, alu.Effect{}, n
}

// P3.2, Run: codes as they come, as Step after Step; what is run in two parts is as what is run at once.
func TestRunTold(t *testing.T) {
	d, ends := dice(7), [13]int{}
	for range 20000 {
		var list []uint32
		for range 1 + d.next()%20 {
			x := isa.Ins{Op: int(d.next() % 19), A: int(d.next() % 16), B: int(d.next() % 16), Imm: int(d.next() % 16)}
			if d.next()%4 != 0 {
				x.Op %= 12
			}
			if x.Op >= isa.Beq {
				x.Imm = int(uint16(d.next()%8 - 4))
			}
			w, _ := isa.Encode(x)
			list = append(list, w)
		}
		code, s, most := word.Bytes(list...), at(d.state(), 0), int(d.next()%60)
		want, effect, count := runTold(s, code, most)
		got, e, n := alu.Run(s, code, most)
		if got != want || e != effect || n != count {
			t.Fatalf("%x of %x, most %d: %x %+v %d, not %x %+v %d", code, s, most, got, e, n, want, effect, count)
		}
		ends[e.Kind]++
		half, e1, n1 := alu.Run(s, code, n/2)
		if n1 != n/2 || e1 != (alu.Effect{}) {
			t.Fatalf("%x of %x, most %d: %+v %d", code, s, n/2, e1, n1)
		}
		if got, e, n2 := alu.Run(half, code, most-n1); got != want || e != effect || n1+n2 != count {
			t.Fatalf("%x of %x, in two parts: %x %+v %d", code, s, got, e, n1+n2)
		}
	}
	for _, kind := range []int{alu.ENone, alu.ELoad, alu.EStore, alu.EBad} {
		if ends[kind] < 100 {
			t.Error("too few rows of each end:", ends)
		}
	}
}

// P3.2 and rule 4: Run leaves its code, and what lies behind it in its memory, which it doesn't take for code either.
func TestRunMemory(t *testing.T) {
	all := codeOf(t, "li r1 7\nst r1 r0 0\nli r1 8\nhalt\n")
	before := bytes.Clone(all)
	s, e, n := alu.Run(alu.State{}, all[:6], 5)
	if s.PC != 4 || e != (alu.Effect{Kind: alu.EBad}) || n != 1 || !bytes.Equal(all, before) {
		t.Errorf("%x %+v %d % x", s, e, n, all)
	}
	s, e, n = alu.Run(alu.State{}, all, 5)
	if s.PC != 8 || e != (alu.Effect{Kind: alu.EStore, Value: 7}) || n != 1 || !bytes.Equal(all, before) {
		t.Errorf("%x %+v %d % x", s, e, n, all)
	}
}
