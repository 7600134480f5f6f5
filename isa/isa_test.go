package isa

import (
	"math"
	"testing"

	"gaoler/api"
)

// The chapter's opcodes by format, as plain numbers, so that the table under
// test is not held against itself.
var opcodes = [][]int{
	1: {1, 2, 3, 4, 5, 6, 7, 8},
	2: {9, 11, 12, 13, 14, 15, 16, 17, 19},
	3: {10, 18},
	4: {20, 23, 24},
	5: {21},
	6: {22},
	7: {25},
}

// The bits below the opcode that each format uses, written out by hand.
var operandBits = []uint32{
	1: 0x03fc000f,
	2: 0x03ffffff,
	3: 0x03c3ffff,
	4: 0x00000000,
	5: 0x03c0000f,
	6: 0x003c000f,
	7: 0x003c0000,
}

var wrongOpcodes = []int{math.MinInt, -1 << 32, -26, -1, 0, 26, 27, 31, 32, 63, 64, 65, 1<<32 + 1, math.MaxInt}

// registers holds numbers at both ends of the range and beyond them, some of
// which fall into the range if all but their low bits are lost.
var registers = []int{math.MinInt, -1 << 32, -16, -1, 0, 1, 7, 8, 14, 15, 16, 17, 31, 1 << 32, 1<<32 + 3, math.MaxInt}

// immediates holds the ends of the signed 18 bits and of the CSR numbers, with
// what is just inside and just beyond them.
var immediates = []int32{
	math.MinInt32, -262144, -131073, -131072, -131071, -12, -1, 0, 1, 10, 11, 12, 13, 15, 16,
	131070, 131071, 131072, 131073, 262143, 262144, 262155, math.MaxInt32,
}

// formatOf is the chapter's format of an opcode, 0 if there is none.
func formatOf(op int) int {
	for form, ops := range opcodes {
		for _, o := range ops {
			if o == op {
				return form
			}
		}
	}
	return 0
}

// valid is the chapter's definition, spelt out format by format.
func valid(i api.Instr) bool {
	isReg := func(r int) bool { return r >= 0 && r <= 15 }
	isImm := i.Imm >= -131072 && i.Imm <= 131071
	isCsr := i.Imm >= 0 && i.Imm <= 11
	switch formatOf(i.Op) {
	case 1:
		return isReg(i.Rd) && isReg(i.Ra) && isReg(i.Rb) && i.Imm == 0
	case 2:
		return isReg(i.Rd) && isReg(i.Ra) && i.Rb == 0 && isImm
	case 3:
		return isReg(i.Rd) && i.Ra == 0 && i.Rb == 0 && isImm
	case 4:
		return i == api.Instr{Op: i.Op}
	case 5:
		return isReg(i.Rd) && i.Ra == 0 && i.Rb == 0 && isCsr
	case 6:
		return i.Rd == 0 && isReg(i.Ra) && i.Rb == 0 && isCsr
	case 7:
		return i.Rd == 0 && isReg(i.Ra) && i.Rb == 0 && i.Imm == 0
	}
	return false
}

// wordOf is the word of a valid instruction, put together by sums.
func wordOf(i api.Instr) uint32 {
	low := int64(i.Imm) + int64(i.Rb)
	if low < 0 {
		low += 1 << 18
	}
	return uint32(int64(i.Op)*(1<<26) + int64(i.Rd)*(1<<22) + int64(i.Ra)*(1<<18) + low)
}

// decodable reports whether some valid instruction is encoded as w.
func decodable(w uint32) bool {
	form := formatOf(int(w / (1 << 26)))
	if form == 0 || w%(1<<26)&^operandBits[form] != 0 {
		return false
	}
	return form != 5 && form != 6 || w%16 <= 11
}

// eachInstr calls f for every opcode, right or wrong, with every combination
// of the operands above.
func eachInstr(f func(i api.Instr)) {
	ops := append([]int{}, wrongOpcodes...)
	for op := 1; op <= 25; op++ {
		ops = append(ops, op)
	}
	for _, op := range ops {
		for _, rd := range registers {
			for _, ra := range registers {
				for _, rb := range registers {
					for _, imm := range immediates {
						f(api.Instr{Op: op, Rd: rd, Ra: ra, Rb: rb, Imm: imm})
					}
				}
			}
		}
	}
}

// eachWord calls f for every low 18 bits under every opcode with two choices
// of registers, and for every choice of registers with some of the low bits.
func eachWord(f func(w uint32)) {
	for op := uint32(0); op < 64; op++ {
		for low := uint32(0); low < 1<<18; low++ {
			f(op<<26 | low)
			f(op<<26 | 9<<22 | 6<<18 | low)
		}
		for high := uint32(0); high < 256; high++ {
			for _, low := range []uint32{0, 1, 11, 12, 15, 16, 0x1ffff, 0x20000, 0x3ffff} {
				f(op<<26 | high<<18 | low)
			}
		}
	}
}

// P2.1: every opcode has the chapter's format.
func TestFormatOfEveryOpcode(t *testing.T) {
	count := 0
	for form, ops := range opcodes {
		for _, op := range ops {
			count++
			if got := FormatOf(op); got != form {
				t.Errorf("FormatOf(%d) = %d, want %d", op, got, form)
			}
		}
	}
	if count != 25 {
		t.Errorf("%d opcodes were tried, want 25", count)
	}
}

// P2.1: what is no opcode has the format 0.
func TestFormatOfWrongOpcodes(t *testing.T) {
	for _, op := range wrongOpcodes {
		if got := FormatOf(op); got != 0 {
			t.Errorf("FormatOf(%d) = %d, want 0", op, got)
		}
	}
}

// P2.1: Csrr, Csrw, Eret, Halt and Out are privileged, nothing else is.
func TestIsPrivileged(t *testing.T) {
	privileged := map[int]bool{21: true, 22: true, 23: true, 24: true, 25: true}
	ops := append([]int{}, wrongOpcodes...)
	for op := -70; op <= 70; op++ {
		ops = append(ops, op)
	}
	for _, op := range ops {
		if got := IsPrivileged(op); got != privileged[op] {
			t.Errorf("IsPrivileged(%d) = %v", op, got)
		}
	}
}

// P2.1: named instructions, valid ones and ones just beside them.
func TestValidNamed(t *testing.T) {
	for _, c := range []struct {
		i    api.Instr
		want bool
	}{
		{api.Instr{}, false},
		{api.Instr{Op: 26}, false},
		{api.Instr{Op: -1}, false},
		{api.Instr{Op: api.Add}, true},
		{api.Instr{Op: api.Add, Rd: 15, Ra: 15, Rb: 15}, true},
		{api.Instr{Op: api.Add, Rd: 16}, false},
		{api.Instr{Op: api.Add, Ra: 16}, false},
		{api.Instr{Op: api.Add, Rb: 16}, false},
		{api.Instr{Op: api.Add, Rd: -1}, false},
		{api.Instr{Op: api.Add, Imm: 1}, false},
		{api.Instr{Op: api.Addi, Imm: 131071}, true},
		{api.Instr{Op: api.Addi, Imm: 131072}, false},
		{api.Instr{Op: api.Jalr, Imm: -131072}, true},
		{api.Instr{Op: api.Jalr, Imm: -131073}, false},
		{api.Instr{Op: api.Addi, Rb: 1}, false},
		{api.Instr{Op: api.Lui, Rd: 15, Imm: -1}, true},
		{api.Instr{Op: api.Lui, Ra: 1}, false},
		{api.Instr{Op: api.Jal, Imm: -131073}, false},
		{api.Instr{Op: api.Ecall}, true},
		{api.Instr{Op: api.Ecall, Rd: 1}, false},
		{api.Instr{Op: api.Eret, Ra: 1}, false},
		{api.Instr{Op: api.Halt, Imm: 1}, false},
		{api.Instr{Op: api.Csrr, Rd: 15, Imm: 11}, true},
		{api.Instr{Op: api.Csrr, Imm: 12}, false},
		{api.Instr{Op: api.Csrr, Imm: -1}, false},
		{api.Instr{Op: api.Csrr, Ra: 1}, false},
		{api.Instr{Op: api.Csrw, Ra: 15, Imm: 0}, true},
		{api.Instr{Op: api.Csrw, Imm: 12}, false},
		{api.Instr{Op: api.Csrw, Rd: 1}, false},
		{api.Instr{Op: api.Out, Ra: 15}, true},
		{api.Instr{Op: api.Out, Rd: 1}, false},
		{api.Instr{Op: api.Out, Rb: 1}, false},
		{api.Instr{Op: api.Out, Imm: 1}, false},
	} {
		if got := Valid(c.i); got != c.want {
			t.Errorf("Valid(%+v) = %v, want %v", c.i, got, c.want)
		}
	}
}

// P2.1: Valid agrees with the definition for every opcode and all operands.
func TestValidEveryOpcode(t *testing.T) {
	eachInstr(func(i api.Instr) {
		if got := Valid(i); got != valid(i) {
			t.Fatalf("Valid(%+v) = %v, want %v", i, got, valid(i))
		}
	})
}

// P2.2: named words, encoded and decoded.
func TestNamedWords(t *testing.T) {
	for _, c := range []struct {
		i api.Instr
		w uint32
	}{
		{api.Instr{Op: api.Addi, Rd: 1, Ra: 2, Imm: -1}, 0x244bffff},
		{api.Instr{Op: api.Add}, 0x04000000},
		{api.Instr{Op: api.Add, Rd: 1, Ra: 2, Rb: 3}, 0x04480003},
		{api.Instr{Op: api.Shr, Rd: 15, Ra: 15, Rb: 15}, 0x23fc000f},
		{api.Instr{Op: api.Addi, Imm: 131071}, 0x2401ffff},
		{api.Instr{Op: api.Jalr, Rd: 15, Ra: 15, Imm: -131072}, 0x4ffe0000},
		{api.Instr{Op: api.Lui, Rd: 15, Imm: 131071}, 0x2bc1ffff},
		{api.Instr{Op: api.Jal, Rd: 1, Imm: -131072}, 0x48420000},
		{api.Instr{Op: api.Ecall}, 0x50000000},
		{api.Instr{Op: api.Csrr, Rd: 15, Imm: 11}, 0x57c0000b},
		{api.Instr{Op: api.Csrr}, 0x54000000},
		{api.Instr{Op: api.Csrw, Ra: 15, Imm: 11}, 0x583c000b},
		{api.Instr{Op: api.Eret}, 0x5c000000},
		{api.Instr{Op: api.Halt}, 0x60000000},
		{api.Instr{Op: api.Out, Ra: 15}, 0x643c0000},
	} {
		if w, ok := Encode(c.i); w != c.w || !ok {
			t.Errorf("Encode(%+v) = %#x, %v, want %#x", c.i, w, ok, c.w)
		}
		if i, ok := Decode(c.w); i != c.i || !ok {
			t.Errorf("Decode(%#x) = %+v, %v, want %+v", c.w, i, ok, c.i)
		}
	}
}

// P2.2: Encode gives the word of each valid instruction, and 0 and false for
// every other.
func TestEncodeEveryOpcode(t *testing.T) {
	eachInstr(func(i api.Instr) {
		want, wantOk := uint32(0), valid(i)
		if wantOk {
			want = wordOf(i)
		}
		if w, ok := Encode(i); w != want || ok != wantOk {
			t.Fatalf("Encode(%+v) = %#x, %v, want %#x, %v", i, w, ok, want, wantOk)
		}
	})
}

// P2.2: named words that are no instruction.
func TestDecodeWrongWords(t *testing.T) {
	for _, w := range []uint32{
		0x00000000, 0x00000001, 0x03ffffff, // opcode 0
		0x68000000, 0xfc000000, 0xffffffff, // opcodes 26 and 63
		0x04000010, 0x04020000, // add with a bit above Rb
		0x28040000, 0x48200000, // lui and jal with an Ra
		0x50000001, 0x50400000, 0x5c040000, 0x60020000, // no operands allowed
		0x5400000c, 0x5400000f, 0x54000010, 0x5403ffff, 0x54040000, // csrr
		0x5800000c, 0x58020000, 0x58400000, // csrw
		0x64000001, 0x64400000, 0x64020000, // out
	} {
		if i, ok := Decode(w); ok || i != (api.Instr{}) {
			t.Errorf("Decode(%#08x) = %+v, %v, want none", w, i, ok)
		}
	}
}

// P2.2: every single bit that a format does not use spoils its words.
func TestDecodeUnusedBits(t *testing.T) {
	for form, ops := range opcodes {
		for _, op := range ops {
			for bit := uint32(1); bit < 1<<26; bit <<= 1 {
				i, ok := Decode(uint32(op)<<26 | bit)
				// In a word of otherwise clear bits a CSR number is at most 8.
				if want := operandBits[form]&bit != 0; ok != want {
					t.Errorf("opcode %d, bit %#x: %+v, %v, want %v", op, bit, i, ok, want)
				}
			}
		}
	}
}

// P2.2: Decode answers exactly the words that are encodings, with a valid
// instruction of that encoding.
func TestDecodeManyWords(t *testing.T) {
	eachWord(func(w uint32) {
		i, ok := Decode(w)
		if ok != decodable(w) {
			t.Fatalf("Decode(%#x) = %+v, %v, want %v", w, i, ok, decodable(w))
		}
		if !ok && i != (api.Instr{}) {
			t.Fatalf("Decode(%#x) = %+v beside false", w, i)
		}
		if ok && (!valid(i) || wordOf(i) != w) {
			t.Fatalf("Decode(%#x) = %+v, which is not its instruction", w, i)
		}
	})
}

// P2.3: decoding takes every valid instruction's word back to it, and no word
// belongs to two of them.
func TestDecodeInvertsEncode(t *testing.T) {
	owner := map[uint32]api.Instr{}
	eachInstr(func(i api.Instr) {
		w, ok := Encode(i)
		if !ok {
			return
		}
		if back, ok := Decode(w); back != i || !ok {
			t.Fatalf("Decode(Encode(%+v)) = %+v, %v", i, back, ok)
		}
		if other, taken := owner[w]; taken {
			t.Fatalf("%+v and %+v are both encoded as %#x", i, other, w)
		}
		owner[w] = i
	})
	if len(owner) == 0 {
		t.Error("no instruction was encoded")
	}
}

// P2.3: encoding takes every decoded instruction back to its word.
func TestEncodeInvertsDecode(t *testing.T) {
	seen := 0
	eachWord(func(w uint32) {
		i, ok := Decode(w)
		if !ok {
			return
		}
		seen++
		if back, ok := Encode(i); back != w || !ok {
			t.Fatalf("Encode(Decode(%#x)) = %#x, %v", w, back, ok)
		}
	})
	if seen == 0 {
		t.Error("no word was decoded")
	}
}
