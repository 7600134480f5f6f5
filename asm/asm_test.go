package asm

import (
	"fmt"
	"math"
	"regexp"
	"slices"
	"strings"
	"testing"

	"gaoler/api"
)

// The chapter's mnemonics in the order of the opcodes 1 to 25, so that the
// table under test is not held against itself.
var names = strings.Split("add, sub, and, or, xor, slt, shl, shr, addi, lui, lw, sw, lb, sb, beq, bne, blt, jal, jalr, ecall, csrr, csrw, eret, halt, out", ", ")

// texts is the chapter's text of an instruction for each format, with a verb
// for the mnemonic and for each operand.
var texts = []string{
	1: "%s r%d r%d r%d", 2: "%s r%d r%d %d", 3: "%s r%d %d", 4: "%s",
	5: "%s r%d c%d", 6: "%s c%d r%d", 7: "%s r%d",
}

// The patterns of the operands, written out number by number.
const (
	reg = `r(0|1|2|3|4|5|6|7|8|9|10|11|12|13|14|15)`
	csr = `c(0|1|2|3|4|5|6|7|8|9|10|11)`
	imm = `(0|-?[1-9][0-9]{0,4}|-?1[0-2][0-9]{4}|-?130[0-9]{3}|-?1310[0-6][0-9]|-?13107[01]|-131072)`
)

// grammar matches the texts of all instructions and nothing else.
var grammar = regexp.MustCompile(`\A(` + strings.Join([]string{
	`(add|sub|and|or|xor|slt|shl|shr) ` + reg + ` ` + reg + ` ` + reg,
	`(addi|lw|sw|lb|sb|beq|bne|blt|jalr) ` + reg + ` ` + reg + ` ` + imm,
	`(lui|jal) ` + reg + ` ` + imm,
	`(ecall|eret|halt)`,
	`csrr ` + reg + ` ` + csr,
	`csrw ` + csr + ` ` + reg,
	`out ` + reg,
}, `|`) + `)\z`)

var registers = []int{0, 1, 7, 9, 10, 14, 15}

var immediates = []int32{-131072, -131071, -100000, -99999, -10, -1, 0, 1, 9, 10, 99999, 100000, 131070, 131071}

var numbers = []int32{0, 1, 2, 9, 10, 11}

// formatOf is the chapter's format of an opcode from 1 to 25.
func formatOf(op int) int {
	switch {
	case op <= 8:
		return 1
	case op == 10 || op == 18:
		return 3
	case op == 20 || op == 23 || op == 24:
		return 4
	case op >= 21 && op != 25:
		return op - 16
	case op == 25:
		return 7
	}
	return 2
}

// eachInstr calls f with valid instructions of every opcode, and their texts.
func eachInstr(f func(i api.Instr, text string)) {
	for n, name := range names {
		op := n + 1
		form := formatOf(op)
		switch form {
		case 4:
			f(api.Instr{Op: op}, name)
		case 7:
			for _, a := range registers {
				f(api.Instr{Op: op, Ra: a}, fmt.Sprintf(texts[form], name, a))
			}
		case 5, 6:
			eachCsrInstr(op, name, f)
		default:
			for _, d := range registers {
				eachLongInstr(op, d, name, f)
			}
		}
	}
}

func eachCsrInstr(op int, name string, f func(i api.Instr, text string)) {
	for _, r := range registers {
		for _, c := range numbers {
			if op == 21 {
				f(api.Instr{Op: op, Rd: r, Imm: c}, fmt.Sprintf(texts[5], name, r, c))
			} else {
				f(api.Instr{Op: op, Ra: r, Imm: c}, fmt.Sprintf(texts[6], name, c, r))
			}
		}
	}
}

func eachLongInstr(op, d int, name string, f func(i api.Instr, text string)) {
	form := formatOf(op)
	if form == 3 {
		for _, m := range immediates {
			f(api.Instr{Op: op, Rd: d, Imm: m}, fmt.Sprintf(texts[form], name, d, m))
		}
		return
	}
	for _, a := range registers {
		if form == 1 {
			for _, b := range registers {
				f(api.Instr{Op: op, Rd: d, Ra: a, Rb: b}, fmt.Sprintf(texts[form], name, d, a, b))
			}
			continue
		}
		for _, m := range immediates {
			f(api.Instr{Op: op, Rd: d, Ra: a, Imm: m}, fmt.Sprintf(texts[form], name, d, a, m))
		}
	}
}

// eachWord calls f with words of every opcode from 0 to 63, decodable or not,
// in rising order.
func eachWord(f func(w uint32)) {
	for op := uint32(0); op < 64; op++ {
		for _, high := range []uint32{0, 1, 15, 16, 0x96, 0xf0, 0xff} {
			for _, low := range []uint32{0, 1, 10, 11, 12, 15, 16, 0x1ffff, 0x20000, 0x3ffff} {
				f(op<<26 | high<<18 | low)
			}
		}
	}
}

func checkParse(t *testing.T, s string, want api.Instr, wantErrno api.Errno) {
	t.Helper()
	if i, errno := Parse(s); i != want || errno != wantErrno {
		t.Errorf("Parse(%.60q) = %+v, %d, want %+v, %d", s, i, errno, want, wantErrno)
	}
}

func checkNoText(t *testing.T, s string) {
	t.Helper()
	checkParse(t, s, api.Instr{}, api.ErrSyntax)
}

func checkBadLine(t *testing.T, s string, at int) {
	t.Helper()
	if words, errno, got := Assemble(s); len(words) != 0 || errno != api.ErrSyntax || got != at {
		t.Errorf("Assemble(%.60q) = %d words, %d, %d, want none, %d, %d", s, len(words), errno, got, api.ErrSyntax, at)
	}
}

func checkAssemble(t *testing.T, s string, want []uint32) {
	t.Helper()
	if words, errno, at := Assemble(s); !slices.Equal(words, want) || errno != api.OK || at != 0 {
		t.Errorf("Assemble(%.60q) = %x, %d, %d, want %x, 0, 0", s, words, errno, at, want)
	}
}

// P3.1: named instructions and their texts, one of each mnemonic.
func TestNamedTexts(t *testing.T) {
	named := []struct {
		i api.Instr
		s string
	}{
		{api.Instr{Op: api.Add, Rd: 1, Ra: 2, Rb: 3}, "add r1 r2 r3"},
		{api.Instr{Op: api.Sub, Rd: 15, Ra: 14, Rb: 13}, "sub r15 r14 r13"},
		{api.Instr{Op: api.And}, "and r0 r0 r0"},
		{api.Instr{Op: api.Or, Rd: 10}, "or r10 r0 r0"},
		{api.Instr{Op: api.Xor, Ra: 10}, "xor r0 r10 r0"},
		{api.Instr{Op: api.Slt, Rb: 10}, "slt r0 r0 r10"},
		{api.Instr{Op: api.Shl, Rd: 4, Ra: 5, Rb: 6}, "shl r4 r5 r6"},
		{api.Instr{Op: api.Shr, Rd: 15, Rb: 9}, "shr r15 r0 r9"},
		{api.Instr{Op: api.Addi, Rd: 1, Ra: 2, Imm: -1}, "addi r1 r2 -1"},
		{api.Instr{Op: api.Lui, Rd: 3, Imm: 131071}, "lui r3 131071"},
		{api.Instr{Op: api.Lw, Rd: 3, Ra: 4, Imm: 8}, "lw r3 r4 8"},
		{api.Instr{Op: api.Sw, Rd: 3, Ra: 4, Imm: -8}, "sw r3 r4 -8"},
		{api.Instr{Op: api.Lb, Rd: 3, Ra: 4}, "lb r3 r4 0"},
		{api.Instr{Op: api.Sb, Rd: 15, Ra: 15, Imm: 131071}, "sb r15 r15 131071"},
		{api.Instr{Op: api.Beq, Rd: 1, Ra: 2, Imm: -131072}, "beq r1 r2 -131072"},
		{api.Instr{Op: api.Bne, Rd: 1, Ra: 2, Imm: 12}, "bne r1 r2 12"},
		{api.Instr{Op: api.Blt, Rd: 1, Ra: 2, Imm: 100}, "blt r1 r2 100"},
		{api.Instr{Op: api.Jal, Imm: -131072}, "jal r0 -131072"},
		{api.Instr{Op: api.Jalr, Rd: 1, Ra: 2, Imm: 4}, "jalr r1 r2 4"},
		{api.Instr{Op: api.Ecall}, "ecall"},
		{api.Instr{Op: api.Csrr, Rd: 4, Imm: api.Timeh}, "csrr r4 c8"},
		{api.Instr{Op: api.Csrw, Ra: 15, Imm: api.Scratch}, "csrw c11 r15"},
		{api.Instr{Op: api.Eret}, "eret"},
		{api.Instr{Op: api.Halt}, "halt"},
		{api.Instr{Op: api.Out, Ra: 10}, "out r10"},
	}
	if len(named) != api.Ops {
		t.Errorf("%d instructions are named, want %d", len(named), api.Ops)
	}
	for _, c := range named {
		if s, errno := Format(c.i); s != c.s || errno != api.OK {
			t.Errorf("Format(%+v) = %q, %d, want %q", c.i, s, errno, c.s)
		}
		checkParse(t, c.s, c.i, api.OK)
	}
}

// P3.1: the text of instructions of every opcode, and the way back.
func TestTextsOfEveryOpcode(t *testing.T) {
	seen := map[int]bool{}
	eachInstr(func(i api.Instr, text string) {
		seen[i.Op] = true
		if s, errno := Format(i); s != text || errno != api.OK {
			t.Fatalf("Format(%+v) = %q, %d, want %q", i, s, errno, text)
		}
		if got, errno := Parse(text); got != i || errno != api.OK {
			t.Fatalf("Parse(%q) = %+v, %d, want %+v", text, got, errno, i)
		}
	})
	if len(seen) != 25 {
		t.Errorf("%d opcodes were tried, want 25", len(seen))
	}
}

// P3.1: invalid instructions have no text.
func TestFormatInvalid(t *testing.T) {
	for _, i := range []api.Instr{
		{},
		{Op: -1}, {Op: 26}, {Op: 63}, {Op: 64}, {Op: 1<<32 + 1}, {Op: math.MinInt}, {Op: math.MaxInt},
		{Rd: 1}, {Imm: 1},
		{Op: api.Add, Rd: 16}, {Op: api.Add, Ra: 16}, {Op: api.Add, Rb: 16},
		{Op: api.Add, Rd: -1}, {Op: api.Add, Ra: -1}, {Op: api.Add, Rb: -1}, {Op: api.Add, Imm: 1},
		{Op: api.Add, Rd: 1 << 32}, {Op: api.Add, Rb: math.MaxInt},
		{Op: api.Addi, Rd: 16}, {Op: api.Addi, Ra: 16}, {Op: api.Addi, Rb: 1},
		{Op: api.Addi, Imm: 131072}, {Op: api.Addi, Imm: -131073},
		{Op: api.Jalr, Imm: math.MaxInt32}, {Op: api.Jalr, Imm: math.MinInt32},
		{Op: api.Lui, Rd: 16}, {Op: api.Lui, Ra: 1}, {Op: api.Lui, Rb: 1}, {Op: api.Jal, Imm: 131072}, {Op: api.Jal, Imm: -131073},
		{Op: api.Ecall, Rd: 1}, {Op: api.Eret, Ra: 1}, {Op: api.Halt, Rb: 1}, {Op: api.Halt, Imm: 1},
		{Op: api.Csrr, Rd: 16}, {Op: api.Csrr, Ra: 1}, {Op: api.Csrr, Rb: 1}, {Op: api.Csrr, Imm: 12}, {Op: api.Csrr, Imm: -1},
		{Op: api.Csrw, Rd: 1}, {Op: api.Csrw, Ra: 16}, {Op: api.Csrw, Rb: 1}, {Op: api.Csrw, Imm: 12}, {Op: api.Csrw, Imm: -1},
		{Op: api.Out, Rd: 1}, {Op: api.Out, Ra: 16}, {Op: api.Out, Ra: -1}, {Op: api.Out, Rb: 1}, {Op: api.Out, Imm: 1},
	} {
		if s, errno := Format(i); s != "" || errno != api.ErrArg {
			t.Errorf("Format(%+v) = %q, %d, want \"\", %d", i, s, errno, api.ErrArg)
		}
	}
}

// P3.1: registers from 0 to 15 in every place, and what is beyond them.
func TestParseRegisters(t *testing.T) {
	for _, r := range []int{0, 9, 10, 15} {
		checkParse(t, fmt.Sprintf("add r%d r1 r2", r), api.Instr{Op: api.Add, Rd: r, Ra: 1, Rb: 2}, api.OK)
		checkParse(t, fmt.Sprintf("add r1 r%d r2", r), api.Instr{Op: api.Add, Rd: 1, Ra: r, Rb: 2}, api.OK)
		checkParse(t, fmt.Sprintf("add r1 r2 r%d", r), api.Instr{Op: api.Add, Rd: 1, Ra: 2, Rb: r}, api.OK)
		checkParse(t, fmt.Sprintf("out r%d", r), api.Instr{Op: api.Out, Ra: r}, api.OK)
	}
	for _, r := range []string{
		"r16", "r17", "r99", "r-1", "r-0", "r+0", "r+1", "r00", "r01", "r015", "r", "0", "15", "R0", "rr0", "c0", "r0x0",
		"r0.", "r1_0", "ra", "r 0", "r4294967296", "r4294967297", "r18446744073709551617", "-r1", "r\u0661",
	} {
		for _, s := range []string{"add %s r1 r2", "add r1 %s r2", "add r1 r2 %s", "addi %s r1 2", "addi r1 %s 2", "lui %s 1", "csrr %s c1", "csrw c1 %s", "out %s"} {
			checkNoText(t, fmt.Sprintf(s, r))
		}
	}
}

// P3.1: CSR numbers from 0 to 11, and what is beyond them.
func TestParseCsrs(t *testing.T) {
	for c := int32(0); c <= 11; c++ {
		checkParse(t, fmt.Sprintf("csrr r4 c%d", c), api.Instr{Op: api.Csrr, Rd: 4, Imm: c}, api.OK)
		checkParse(t, fmt.Sprintf("csrw c%d r4", c), api.Instr{Op: api.Csrw, Ra: 4, Imm: c}, api.OK)
	}
	for _, c := range []string{
		"c12", "c13", "c15", "c16", "c-1", "c-0", "c+0", "c+1", "c00", "c01", "c011", "c", "0", "11", "C0", "cc0", "r0",
		"c0xb", "cb", "cstatus", "status", "c4294967296", "c4294967297", "c18446744073709551617",
	} {
		checkNoText(t, "csrr r4 "+c)
		checkNoText(t, "csrw "+c+" r4")
	}
	checkNoText(t, "csrr c1 r4")
	checkNoText(t, "csrw r4 c1")
}

// P3.1: immediates at both ends of the signed 18 bits, and what is beyond or
// spelt otherwise.
func TestParseImmediates(t *testing.T) {
	for _, m := range immediates {
		checkParse(t, fmt.Sprintf("addi r1 r2 %d", m), api.Instr{Op: api.Addi, Rd: 1, Ra: 2, Imm: m}, api.OK)
		checkParse(t, fmt.Sprintf("jal r1 %d", m), api.Instr{Op: api.Jal, Rd: 1, Imm: m}, api.OK)
	}
	for _, m := range []string{
		"131072", "-131073", "131073", "262143", "262144", "-262144", "999999", "2147483647", "2147483648", "-2147483648", "-2147483649",
		"4294967295", "4294967296", "4294967297", "9223372036854775807", "9223372036854775808", "18446744073709551615", "18446744073709551617",
		"+0", "+1", "-0", "--1", "+-1", "-+1", "-", "+", "00", "01", "-01", "-00", "0131071",
		"0x1", "0b1", "0o1", "1_0", "1e1", "1.", "1.0", "a", "r1", "c1", "1a", "\u0661", "\uff11",
	} {
		checkNoText(t, "addi r1 r2 "+m)
		checkNoText(t, "lui r1 "+m)
	}
}

// P3.1: numbers of very many digits are no numbers of an operand.
func TestParseManyDigits(t *testing.T) {
	for _, n := range []int{19, 20, 21, 40, 1000, 1 << 20} {
		for _, digits := range []string{
			strings.Repeat("9", n), strings.Repeat("0", n), strings.Repeat("0", n) + "1",
			"1" + strings.Repeat("0", n), "-" + strings.Repeat("1", n), "-" + strings.Repeat("0", n) + "1",
		} {
			for _, s := range []string{"addi r1 r2 ", "lui r1 ", "add r1 r2 r", "csrr r1 c", "out r", "out r1 "} {
				checkNoText(t, s+digits)
			}
			checkBadLine(t, "halt\naddi r1 r2 "+digits+"\n", 1)
			checkBadLine(t, "halt\nword "+digits+"\n", 1)
		}
	}
}

// P3.1: strings that are nearly texts, or none at all.
func TestParseWrong(t *testing.T) {
	for _, s := range []string{
		"", " ", "  ", "\n", "\x00", "r1", "1", "nop", "word", "word 00000000", "word 50000000",
		"add", "add ", "add r1", "add r1 r2", "add r1 r2 ", "add r1 r2 r3 r4", "add r1 r2 r3 r4 r5", "add r1 r2 3", "add r1 r2 r3 ",
		"addi r1 r2", "addi r1 r2 ", "addi r1 r2 r3", "addi r1 2 3", "addi r1 r2 3 4", "addi 3 r1 r2", "addi r1 r2 3 ",
		"lui", "lui r3", "lui r3 ", "lui r3 r4 1", "lui r3 1 2", "lui r3 1 ", "jal r1 r2",
		"csrr", "csrr r1", "csrr r1 1", "csrr r1 c1 c2", "csrw c1", "csrw 1 r1", "csrw c1 r1 r2",
		"out", "out ", "out 1", "out c1", "out r1 r2", "out r1 ", "out r1 0", "outr1",
		"ecall ", "ecall r1", "ecall 0", "eret r0", "halt 0", " halt", "halt ", "halt\n", "\nhalt", "halt\r", "halt\x00", "\thalt", "halthalt", "halt halt",
		"add  r1 r2 r3", "add r1  r2 r3", "add r1 r2  r3", " add r1 r2 r3", "add r1 r2 r3\n",
		"add\tr1 r2 r3", "add r1\tr2 r3", "add r1 r2\tr3", "add r1 r2 r3\t", "add\u00a0r1 r2 r3", "add r1 r2 r3\u00a0",
		"add r1,r2,r3", "add r1, r2, r3", "add,r1,r2,r3", "add r1 r2 r3,", "lw r1 8(r2)",
		"ADD r1 r2 r3", "Add r1 r2 r3", "add R1 r2 r3", "add r1 R2 r3", "HALT", "Halt", "haLt", "csrr r1 C1", "OUT r1",
		"ad r1 r2 r3", "adds r1 r2 r3", "addd r1 r2 r3", "hal", "haltt", "\xff", "halt\xff", "h\u00e4lt",
	} {
		checkNoText(t, s)
	}
}

// P3.1: a long string is refused, whatever it is made of.
func TestParseLong(t *testing.T) {
	for _, piece := range []string{" ", "r", "0", "halt ", "add r1 r2 r3 ", "\n"} {
		long := strings.Repeat(piece, 1<<18)
		checkNoText(t, long)
		checkNoText(t, "add r1 r2 r3"+long)
		checkNoText(t, "halt"+long)
	}
}

// P3.1: a string one byte away from a text, by any of the bytes in edits, is
// parsed exactly if it is a text itself, and then it is the text of what was
// parsed.
func TestParseNearTexts(t *testing.T) {
	check := func(s string) {
		i, errno := Parse(s)
		if !grammar.MatchString(s) {
			if i != (api.Instr{}) || errno != api.ErrSyntax {
				t.Fatalf("Parse(%q) = %+v, %d, want ErrSyntax", s, i, errno)
			}
			return
		}
		if errno != api.OK {
			t.Fatalf("Parse(%q) = %+v, %d, want OK", s, i, errno)
		}
		if text, errno := Format(i); text != s || errno != api.OK {
			t.Fatalf("Format(Parse(%q)) = %q, %d", s, text, errno)
		}
	}
	const edits = " \t\n\r\x00\xff-+_.,0123456789abcdehijlnorstuwxARC"
	count := 0
	eachInstr(func(i api.Instr, text string) {
		count++
		if count%29 != 0 && formatOf(i.Op) <= 3 {
			return
		}
		check(text)
		for at := 0; at <= len(text); at++ {
			check(text[:at])
			check(text[at:])
			if at < len(text) {
				check(text[:at] + text[at+1:])
			}
			for e := 0; e < len(edits); e++ {
				check(text[:at] + edits[e:e+1] + text[at:])
				if at < len(text) {
					check(text[:at] + edits[e:e+1] + text[at+1:])
				}
			}
		}
	})
}

// P3.2: named words and their lines.
func TestNamedLines(t *testing.T) {
	for _, c := range []struct {
		w    uint32
		line string
	}{
		{0, "word 00000000\n"},
		{1, "word 00000001\n"},
		{0x0000beef, "word 0000beef\n"},
		{0x03ffffff, "word 03ffffff\n"},
		{0x04000010, "word 04000010\n"}, // add with a bit that its format does not use
		{0x5400000c, "word 5400000c\n"}, // csrr of CSR 12
		{0x68000000, "word 68000000\n"},
		{0xdeadbeef, "word deadbeef\n"},
		{0xfedcba98, "word fedcba98\n"},
		{0xffffffff, "word ffffffff\n"},
		{0x04480003, "add r1 r2 r3\n"},
		{0x244bffff, "addi r1 r2 -1\n"},
		{0x48420000, "jal r1 -131072\n"},
		{0x50000000, "ecall\n"},
		{0x57c0000b, "csrr r15 c11\n"},
		{0x583c000b, "csrw c11 r15\n"},
		{0x643c0000, "out r15\n"},
	} {
		if s := Disassemble([]uint32{c.w}); s != c.line {
			t.Errorf("Disassemble(%#x) = %q, want %q", c.w, s, c.line)
		}
		checkAssemble(t, c.line, []uint32{c.w})
	}
}

// P3.2: several words in their order.
func TestSeveralLines(t *testing.T) {
	words := []uint32{0x60000000, 0, 0x04480003, 0xdeadbeef, 0x60000000, 0x60000000}
	const text = "halt\nword 00000000\nadd r1 r2 r3\nword deadbeef\nhalt\nhalt\n"
	if s := Disassemble(words); s != text {
		t.Errorf("Disassemble(%x) = %q, want %q", words, s, text)
	}
	checkAssemble(t, text, words)
}

// P3.2: no words have no lines.
func TestNoLines(t *testing.T) {
	for _, words := range [][]uint32{nil, {}} {
		if s := Disassemble(words); s != "" {
			t.Errorf("Disassemble of no words = %q", s)
		}
	}
	checkAssemble(t, "", nil)
}

// P3.2: single lines that are not the line of a word.
func TestAssembleWrongLines(t *testing.T) {
	for _, line := range []string{
		"\n", " \n", "\r\n", "halt\r\n", " halt\n", "halt \n", "\thalt\n", "HALT\n", "halt;\n", "halt r1\n", "add r1 r2\n", "add r1 r2 r16\n", "addi r1 r2 131072\n",
		"word\n", "word \n", "word0\n", "word 0\n", "word 0000000\n", "word 000000000\n", "word deadbee\n", "word deadbeef0\n", "word 0deadbeef\n",
		"word DEADBEEF\n", "word deadbeeF\n", "word Deadbeef\n", "WORD deadbeef\n", "Word deadbeef\n", "word 0xdeadbe\n", "word 0xdeadbeef\n",
		"word  deadbeef\n", "word  eadbeef\n", " word deadbeef\n", "word deadbeef \n", "word deadbee \n", "word\tdeadbeef\n", "word deadbeef\t\n", "worddeadbeef\n",
		"word deadbeeg\n", "word dead_bee\n", "word +eadbeef\n", "word -0000001\n", "word +0000000\n", "word 00000000 00000000\n", "words deadbeef\n",
		"word 50000000\n", "word 04480003\n", "word 244bffff\n", "word 643c0000\n", "word 57c0000b\n", // these decode
		"word 100000000\n", "word 1deadbeef\n", "word ffffffffffffffff\n", "word 10000000000000000\n", "deadbeef\n",
	} {
		checkBadLine(t, line, 0)
		checkBadLine(t, "halt\nword 00000000\n"+line, 2)
		checkBadLine(t, "halt\n"+line+"halt\n"+line, 1)
	}
}

// P3.2: the index is that of the first bad line, whatever follows it.
func TestAssembleFirstBadLine(t *testing.T) {
	for _, c := range []struct {
		s  string
		at int
	}{
		{"\n", 0},
		{"\n\n", 0},
		{"\nhalt\n", 0},
		{"halt\n\n", 1},
		{"halt\n\nhalt\n", 1},
		{"bad\nbad\nbad\n", 0},
		{"halt\nbad\nbad\n", 1},
		{"halt\nhalt\nhalt r1\nhalt", 2},
		{"halt\nword 50000000\nword DEADBEEF\n\n", 1},
		{strings.Repeat("halt\n", 1000) + "halt", 1000},
		{strings.Repeat("word 00000000\n", 1000) + "nop\n" + strings.Repeat("halt\n", 1000), 1000},
	} {
		checkBadLine(t, c.s, c.at)
	}
}

// P3.2: a last line without a newline is not the line of a word.
func TestAssembleLastLine(t *testing.T) {
	for _, c := range []struct {
		s  string
		at int
	}{
		{"halt", 0}, {"word 00000000", 0}, {"bad", 0}, {" ", 0}, {"\x00", 0},
		{"halt\nhalt", 1}, {"halt\nword deadbeef", 1}, {"halt\nhalt\n ", 2}, {"halt\nbad", 1}, {"bad\nhalt", 0},
	} {
		checkBadLine(t, c.s, c.at)
	}
}

// P3.2 and P3.3: a line of hexadecimal digits is a word's exactly if the word
// does not decode, and every word comes back from its own line.
func TestLinesOfManyWords(t *testing.T) {
	hex, decoded := 0, 0
	eachWord(func(w uint32) {
		line := fmt.Sprintf("word %08x\n", w)
		got := Disassemble([]uint32{w})
		if got == line {
			hex++
		} else {
			decoded++
			checkBadLine(t, line, 0)
			if !grammar.MatchString(strings.TrimSuffix(got, "\n")) || !strings.HasSuffix(got, "\n") {
				t.Errorf("Disassemble(%#x) = %q", w, got)
			}
		}
		checkAssemble(t, got, []uint32{w})
	})
	if hex == 0 || decoded == 0 {
		t.Errorf("%d words in hexadecimal, %d decoded", hex, decoded)
	}
}

// P3.3: assembling what was disassembled gives the words back, all at once.
func TestAssembleInvertsDisassemble(t *testing.T) {
	var words []uint32
	eachWord(func(w uint32) { words = append(words, w) })
	text := Disassemble(words)
	if n := strings.Count(text, "\n"); n != len(words) {
		t.Errorf("%d lines for %d words", n, len(words))
	}
	got, errno, at := Assemble(text)
	if !slices.Equal(got, words) || errno != api.OK || at != 0 {
		t.Errorf("Assemble(Disassemble(words)) = %d words, %d, %d", len(got), errno, at)
	}
	if again := Disassemble(got); again != text {
		t.Error("disassembling again gives another text")
	}
}

// P3.3: different words have different lines.
func TestLinesAreDifferent(t *testing.T) {
	words := map[string]uint32{}
	eachWord(func(w uint32) {
		line := Disassemble([]uint32{w})
		if other, ok := words[line]; ok {
			t.Errorf("%#x and %#x share the line %q", other, w, line)
		}
		words[line] = w
	})
}

// P3.4: the list passed in stays as it was, beyond its length too, and the
// text stays as it was when the list changes.
func TestDisassembleKeepsWords(t *testing.T) {
	all := []uint32{0x60000000, 0, 0xdeadbeef, 0x11111111, 0x22222222}
	before := slices.Clone(all)
	text := Disassemble(all[:3])
	if !slices.Equal(all, before) {
		t.Errorf("the words became %x", all)
	}
	for n := range all {
		all[n] = 0x50000000
	}
	if text != "halt\nword 00000000\nword deadbeef\n" {
		t.Errorf("the text became %q", text)
	}
}

// P3.4: results share no memory with one another or with what they were made
// from.
func TestAssembleResultsAreNew(t *testing.T) {
	const text = "halt\nword 00000000\nadd r1 r2 r3\n"
	want := []uint32{0x60000000, 0, 0x04480003}
	first, _, _ := Assemble(text)
	second, _, _ := Assemble(text)
	for n := range first {
		first[n] = 0xffffffff
	}
	_ = append(first, 1, 2, 3)
	if !slices.Equal(second, want) {
		t.Errorf("the second result became %x", second)
	}
	checkAssemble(t, text, want)
	bytes := []byte(text)
	third, _, _ := Assemble(string(bytes))
	clear(bytes)
	if !slices.Equal(third, want) {
		t.Errorf("the third result became %x", third)
	}
}
