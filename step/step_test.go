package step

import (
	"bytes"
	"math"
	"testing"

	"gaoler/api"
)

const (
	size  = 64 // bytes of memory of most machines here
	base  = 16 // where their user mode begins
	bound = 40 // how many bytes it has
	start = 8  // their program counter
	tvec  = 32
	now   = 0x123456789abcdef0
	spare = 16 // capacity behind the slices of a machine
)

// none is the absence of a trap.
var none = api.Trap{}

// steppers holds the two functions that step, and whether the timer interrupts.
var steppers = []struct {
	name          string
	step          func(api.Machine) (api.Machine, api.Trap)
	interruptible bool
}{
	{"Step", Step, true},
	{"StepNoTimer", StepNoTimer, false},
}

// statuses holds both modes with interrupts enabled and not, with what is saved
// of them, and with the other bits of Status.
var statuses = []uint32{0, 1, 2, 3, 4, 7, 8, 0xb, 0xc, 0xd, 0xe, 0xf, 0x55555550, 0xaaaaaaab, greatest - 1, greatest}

// distinct returns bytes of which no two of the first 250 are equal.
func distinct(size int) []byte {
	b := make([]byte, size)
	for i := range b {
		b[i] = byte(i%250)*7 + 0x83
	}
	return b
}

// spacious returns a copy of b with spare capacity that isn't empty.
func spacious(b []byte) []byte {
	return append(append([]byte{}, b...), distinct(spare)...)[:len(b)]
}

// holding returns a machine with that Status that has the word at its program
// counter; its timer is silent until the next step. All else in it is filled
// with numbers, also at index 0 of the registers and where Time and Timeh are
// never read, and its slices have spare capacity.
func holding(status, w uint32) api.Machine {
	m := api.Machine{Mem: distinct(size + spare)[:size], Out: distinct(3 + spare)[:3], Time: now}
	for i := range m.Core.Regs {
		m.Core.Regs[i] = 0x01010101*uint32(i) + 0x80706051
	}
	for n := range m.Core.Csr {
		m.Core.Csr[n] = 0x30001001 + 0x01100111*uint32(n)
	}
	c := &m.Core.Csr
	c[statusCsr], c[tvecCsr], c[baseCsr], c[boundCsr] = status, tvec, base, bound
	return putting(compared(m, now+1), start, w)
}

// compared returns the machine with that timer compare value.
func compared(m api.Machine, v uint64) api.Machine {
	m.Core.Csr[cmpCsr], m.Core.Csr[cmphCsr] = uint32(v%modulus), uint32(v/modulus)
	return m
}

// putting returns the machine with that program counter, and with the word
// there if it may be fetched.
func putting(m api.Machine, pc, w uint32) api.Machine {
	m.Core.Pc = pc
	p, _ := stored(m, pc, 4, w)
	m.Mem = spacious(p.Mem)
	return m
}

// interrupted returns the machine with the timer interrupt pending.
func interrupted(m api.Machine) api.Machine {
	m.Core.Csr[statusCsr] |= 2
	return compared(m, m.Time)
}

// same reports whether two machines are equal in every part.
func same(m, p api.Machine) bool {
	return m.Core == p.Core && bytes.Equal(m.Mem, p.Mem) && m.Time == p.Time && bytes.Equal(m.Out, p.Out) && m.Halted == p.Halted
}

// trappedBy returns the machine one tick later in the trap: what trap entry
// writes, by hand.
func trappedBy(m api.Machine, t api.Trap) api.Machine {
	status, pc := m.Core.Csr[statusCsr], m.Core.Pc
	c := &m.Core.Csr
	c[statusCsr] = status&0xfffffff0 + []uint32{1, 5, 9, 13}[status&3]
	c[epcCsr], c[causeCsr], c[tvalCsr] = pc, uint32(t.Cause), t.Tval
	m.Core.Pc = c[tvecCsr]
	m.Time++
	return m
}

// expect holds what the stepper makes of m against the machine and the trap.
func expect(t *testing.T, n int, m, want api.Machine, wantTrap api.Trap) {
	t.Helper()
	if got, trap := steppers[n].step(m); !same(got, want) || trap != wantTrap {
		t.Fatalf("%s of %v\ngives %v, %v\nwant  %v, %v", steppers[n].name, m, got, trap, want, wantTrap)
	}
}

// expectBoth does so for both steppers.
func expectBoth(t *testing.T, m, want api.Machine, wantTrap api.Trap) {
	t.Helper()
	for n := range steppers {
		expect(t, n, m, want, wantTrap)
	}
}

// expectCurrent holds Current of m against the instruction and the trap.
func expectCurrent(t *testing.T, m api.Machine, i api.Instr, trap api.Trap) {
	t.Helper()
	if got, gotTrap := Current(m); got != i || gotTrap != trap {
		t.Fatalf("Current of %v\ngives %v, %v\nwant  %v, %v", m, got, gotTrap, i, trap)
	}
}

// expectPreceding expects the trap that precedes execution of all functions, as
// no timer interrupt is pending.
func expectPreceding(t *testing.T, m api.Machine, trap api.Trap) {
	t.Helper()
	expectBoth(t, m, trappedBy(m, trap), trap)
	expectCurrent(t, m, api.Instr{}, trap)
}

// agree holds all functions against the second machine.
func agree(t *testing.T, m api.Machine) {
	t.Helper()
	for n, x := range steppers {
		want, trap := after(m, x.interruptible)
		expect(t, n, m, want, trap)
	}
	i, trap := preceding(m)
	expectCurrent(t, m, i, trap)
}

// registers holds numbers such that two of them are equal or differ, and are
// register 0 or not.
var registers = []int{0, 1, 7, 15}

// immediates holds the least, the greatest, and those around 0.
var immediates = []int32{leastImm, leastImm + 1, -36, -9, -8, -4, -3, -1, 0, 1, 2, 3, 4, 8, 35, 36, 37, 60, 61, 64, mostImm - 1, mostImm}

// eachInstr calls f with instructions of every opcode.
func eachInstr(f func(i api.Instr)) {
	for _, op := range []int{api.Ecall, api.Eret, api.Halt} {
		f(api.Instr{Op: op})
	}
	for _, r := range registers {
		f(api.Instr{Op: api.Out, Ra: r})
		for n := range int32(api.Csrs) {
			f(api.Instr{Op: api.Csrr, Rd: r, Imm: n})
			f(api.Instr{Op: api.Csrw, Ra: r, Imm: n})
		}
		for _, imm := range immediates {
			f(api.Instr{Op: api.Lui, Rd: r, Imm: imm})
			f(api.Instr{Op: api.Jal, Rd: r, Imm: imm})
		}
		for _, ra := range registers {
			eachPair(r, ra, f)
		}
	}
}

// eachPair calls f with the instructions that have Rd and Ra.
func eachPair(rd, ra int, f func(i api.Instr)) {
	for op := api.Add; op <= api.Shr; op++ {
		for _, rb := range registers {
			f(api.Instr{Op: op, Rd: rd, Ra: ra, Rb: rb})
		}
	}
	for _, op := range []int{api.Addi, api.Lw, api.Sw, api.Lb, api.Sb, api.Beq, api.Bne, api.Blt, api.Jalr} {
		for _, imm := range immediates {
			f(api.Instr{Op: op, Rd: rd, Ra: ra, Imm: imm})
		}
	}
}

// eachSituation calls f with machines of each status that do what each rule
// says: with instructions of each opcode that trap and don't, with words that
// are none, and where no word can be fetched. The timer interrupt is pending
// and not.
func eachSituation(f func(m api.Machine)) {
	each := func(m api.Machine) {
		f(m)
		f(interrupted(m))
	}
	for _, status := range statuses {
		eachInstr(func(i api.Instr) { each(holding(status, word(i))) })
		for _, w := range noInstructions {
			each(holding(status, w))
		}
		for _, pc := range []uint32{1, 2, 3, bound - 4, bound, size - base, size - 4, size, size + 1, half, greatest - 3, greatest} {
			each(putting(holding(status, 0), pc, word(api.Instr{Op: api.Halt})))
		}
	}
}

// P13.1: every situation against the second machine.
func TestEverySituation(t *testing.T) {
	causes := map[int]int{}
	eachSituation(func(m api.Machine) {
		agree(t, m)
		_, trap := Step(m)
		causes[trap.Cause]++
	})
	for cause := range api.Causes + 1 {
		if causes[cause] == 0 {
			t.Errorf("no step with cause %d was tried", cause)
		}
	}
}

// noInstructions holds words that are none: of opcodes that don't exist, and
// with bits that the format doesn't use or a CSR that doesn't exist.
var noInstructions = []uint32{
	0, 1, 0x03ffffff, 0x68000000, 0x68000001, 0x6bffffff, 0x7fffffff, 0x80000000, 0x84400000, 0xa4400000, 0xe0000000, 0xfc000000, greatest,
	0x04000010, 0x07ffffff, 0x20020000, 0x28040000, 0x283fffff, 0x48040000, 0x50000001, 0x50040000, 0x50400000, 0x50020000,
	0x5400000c, 0x54000010, 0x54020007, 0x54040007, 0x5403ffff, 0x5800000c, 0x58400000, 0x5bffffff,
	0x5c000001, 0x5c020000, 0x5c040000, 0x5c400000, 0x60000001, 0x60020000, 0x60040000, 0x60400000, 0x63ffffff,
	0x64000001, 0x64040001, 0x64020000, 0x64400000, 0x67ffffff,
}

// P13.1: words that are no instructions trap as illegal, with the word as
// value: in both modes, also where the bits of the opcode are those of a
// privileged one.
func TestNoInstructions(t *testing.T) {
	for _, w := range noInstructions {
		for _, status := range statuses {
			expectPreceding(t, holding(status, w), api.Trap{Cause: api.Illegal, Tval: w})
		}
	}
}

// P13.1: all opcodes there are and are not, with no other bit of the word set,
// with each one and with each two of them.
func TestWords(t *testing.T) {
	for op := range uint32(64) {
		for _, status := range []uint32{0, 1} {
			agree(t, holding(status, op<<26))
			for a := range 26 {
				for b := range a + 1 {
					agree(t, holding(status, op<<26|1<<a|1<<b))
				}
			}
		}
	}
}

// byHand holds unprivileged instructions that do the same in both modes, with
// what they leave in the register of that number and the program counter.
var byHand = []struct {
	i    api.Instr
	reg  int
	v    uint32
	next uint32
}{
	{api.Instr{Op: api.Add, Rd: 5, Ra: 1, Rb: 2}, 5, 13, 12},
	{api.Instr{Op: api.Add, Rd: 0, Ra: 1, Rb: 2}, 0, 77, 12},
	{api.Instr{Op: api.Sub, Rd: 5, Ra: 1, Rb: 2}, 5, 0xfffffffd, 12},
	{api.Instr{Op: api.And, Rd: 5, Ra: 6, Rb: 2}, 5, 8, 12},
	{api.Instr{Op: api.Or, Rd: 5, Ra: 6, Rb: 1}, 5, 0xaabbccdd, 12},
	{api.Instr{Op: api.Xor, Rd: 5, Ra: 6, Rb: 3}, 5, 0x55443327, 12},
	{api.Instr{Op: api.Slt, Rd: 5, Ra: 3, Rb: 1}, 5, 1, 12},
	{api.Instr{Op: api.Slt, Rd: 5, Ra: 1, Rb: 3}, 5, 0, 12},
	{api.Instr{Op: api.Shl, Rd: 5, Ra: 2, Rb: 1}, 5, 256, 12},
	{api.Instr{Op: api.Shr, Rd: 5, Ra: 4, Rb: 1}, 5, 0x04000000, 12},
	{api.Instr{Op: api.Addi, Rd: 5, Ra: 1, Imm: -6}, 5, greatest, 12},
	{api.Instr{Op: api.Addi, Rd: 1, Ra: 1, Imm: mostImm}, 1, 0x20004, 12},
	{api.Instr{Op: api.Lui, Rd: 5, Imm: -1}, 5, 0xffffc000, 12},
	{api.Instr{Op: api.Beq, Rd: 1, Ra: 1, Imm: 5}, 1, 5, 28},
	{api.Instr{Op: api.Beq, Rd: 1, Ra: 2, Imm: 5}, 1, 5, 12},
	{api.Instr{Op: api.Beq, Rd: 0, Ra: 7, Imm: 5}, 7, 77, 12},
	{api.Instr{Op: api.Bne, Rd: 1, Ra: 2, Imm: -3}, 1, 5, greatest - 3},
	{api.Instr{Op: api.Bne, Rd: 1, Ra: 1, Imm: -3}, 1, 5, 12},
	{api.Instr{Op: api.Blt, Rd: 3, Ra: 1, Imm: 0}, 3, greatest, 8},
	{api.Instr{Op: api.Blt, Rd: 1, Ra: 3, Imm: 0}, 1, 5, 12},
	{api.Instr{Op: api.Jal, Rd: 1, Imm: 2}, 1, 12, 16},
	{api.Instr{Op: api.Jal, Rd: 0, Imm: leastImm}, 0, 77, 0xfff80008},
	{api.Instr{Op: api.Jalr, Rd: 2, Ra: 2, Imm: 6}, 2, 12, 14},
	{api.Instr{Op: api.Jalr, Rd: 0, Ra: 0, Imm: -4}, 0, 77, greatest - 3},
}

// numbered returns a machine that holds the word and has registers and bytes of
// memory that can be reckoned with by hand.
func numbered(status, w uint32) api.Machine {
	m := holding(status, w)
	m.Core.Regs = [api.Regs]uint32{0: 77, 1: 5, 2: 8, 3: greatest, 4: half, 5: 55, 6: 0xaabbccd8, 7: 77}
	for at := range m.Mem {
		m.Mem[at] = 0x10 + byte(at)
	}
	return putting(m, start, w)
}

// P13.1: named instructions that trap in no mode.
func TestByHand(t *testing.T) {
	for _, x := range byHand {
		for _, status := range statuses {
			m := numbered(status, word(x.i))
			want := m
			want.Core.Regs[x.reg], want.Core.Pc = x.v, x.next
			want.Time = now + 1
			expectBoth(t, m, want, none)
			expectCurrent(t, m, x.i, none)
		}
	}
}

// reaching holds loads and stores through register 2, which holds 8, with what
// they do in user and in supervisor mode: the cause (the value is the address,
// 8 more than the immediate), the value loaded into register 6, or where the
// bytes are stored.
var reaching = []struct {
	op     int
	imm    int32
	causes [2]int
	loads  [2]uint32
	stores [2]int
	bytes  []byte
}{
	{op: api.Lw, imm: 12, loads: [2]uint32{0x37363534, 0x27262524}},
	{op: api.Lw, imm: 28, loads: [2]uint32{0x47464544, 0x37363534}},
	{op: api.Lw, imm: 32, causes: [2]int{api.Access, 0}, loads: [2]uint32{0xaabbccd8, 0x3b3a3938}},
	{op: api.Lw, imm: 56, causes: [2]int{api.Access, api.Access}, loads: [2]uint32{0xaabbccd8, 0xaabbccd8}},
	{op: api.Lw, imm: 13, causes: [2]int{api.Misaligned, api.Misaligned}, loads: [2]uint32{0xaabbccd8, 0xaabbccd8}},
	{op: api.Lw, imm: -12, causes: [2]int{api.Access, api.Access}, loads: [2]uint32{0xaabbccd8, 0xaabbccd8}},
	{op: api.Lb, imm: 31, loads: [2]uint32{0x47, 0x37}},
	{op: api.Lb, imm: 32, causes: [2]int{api.Access, 0}, loads: [2]uint32{0xaabbccd8, 0x38}},
	{op: api.Lb, imm: 56, causes: [2]int{api.Access, api.Access}, loads: [2]uint32{0xaabbccd8, 0xaabbccd8}},
	{op: api.Sw, imm: 12, loads: [2]uint32{0xaabbccd8, 0xaabbccd8}, stores: [2]int{36, 20}, bytes: []byte{0xd8, 0xcc, 0xbb, 0xaa}},
	{op: api.Sw, imm: 32, causes: [2]int{api.Access, 0}, loads: [2]uint32{0xaabbccd8, 0xaabbccd8}, stores: [2]int{0, 40}, bytes: []byte{0xd8, 0xcc, 0xbb, 0xaa}},
	{op: api.Sw, imm: 14, causes: [2]int{api.Misaligned, api.Misaligned}, loads: [2]uint32{0xaabbccd8, 0xaabbccd8}},
	{op: api.Sw, imm: 56, causes: [2]int{api.Access, api.Access}, loads: [2]uint32{0xaabbccd8, 0xaabbccd8}},
	{op: api.Sw, imm: 0, loads: [2]uint32{0xaabbccd8, 0xaabbccd8}, stores: [2]int{24, 8}, bytes: []byte{0xd8, 0xcc, 0xbb, 0xaa}}, // over itself
	{op: api.Sb, imm: 31, loads: [2]uint32{0xaabbccd8, 0xaabbccd8}, stores: [2]int{55, 39}, bytes: []byte{0xd8}},
	{op: api.Sb, imm: 55, causes: [2]int{api.Access, 0}, loads: [2]uint32{0xaabbccd8, 0xaabbccd8}, stores: [2]int{0, 63}, bytes: []byte{0xd8}},
	{op: api.Sb, imm: 56, causes: [2]int{api.Access, api.Access}, loads: [2]uint32{0xaabbccd8, 0xaabbccd8}},
}

// P13.1: loads and stores in both modes, with traps of their own and without.
func TestReachingByHand(t *testing.T) {
	for _, x := range reaching {
		i := api.Instr{Op: x.op, Rd: 6, Ra: 2, Imm: x.imm}
		for _, status := range statuses {
			mode := status & 1
			m := numbered(status, word(i))
			expectCurrent(t, m, i, none)
			if x.causes[mode] != 0 {
				trap := api.Trap{Cause: x.causes[mode], Tval: 8 + uint32(x.imm)}
				expectBoth(t, m, trappedBy(m, trap), trap)
				continue
			}
			want := m
			want.Core.Regs[6], want.Core.Pc, want.Time = x.loads[mode], 12, now+1
			want.Mem = bytes.Clone(m.Mem)
			copy(want.Mem[x.stores[mode]:], x.bytes)
			expectBoth(t, m, want, none)
		}
	}
}

// P13.1: Ecall traps in both modes, and is what Current returns.
func TestEcall(t *testing.T) {
	for _, status := range statuses {
		m := holding(status, 0x50000000)
		expectBoth(t, m, trappedBy(m, api.Trap{Cause: api.Called}), api.Trap{Cause: api.Called})
		expectCurrent(t, m, api.Instr{Op: api.Ecall}, none)
	}
}

// ruling holds privileged instructions and their words with what they do in
// supervisor mode to a machine of numbered.
var ruling = []struct {
	w  uint32
	i  api.Instr
	do func(m *api.Machine)
}{
	{0x5540000b, api.Instr{Op: api.Csrr, Rd: 5, Imm: api.Scratch}, func(m *api.Machine) { m.Core.Regs[5], m.Core.Pc = 0x3bb01bbc, 12 }},
	{0x54000006, api.Instr{Op: api.Csrr, Rd: 0, Imm: api.Bound}, func(m *api.Machine) { m.Core.Pc = 12 }},
	{0x55400007, api.Instr{Op: api.Csrr, Rd: 5, Imm: api.Time}, func(m *api.Machine) { m.Core.Regs[5], m.Core.Pc = 0x9abcdef0, 12 }},
	{0x55400008, api.Instr{Op: api.Csrr, Rd: 5, Imm: api.Timeh}, func(m *api.Machine) { m.Core.Regs[5], m.Core.Pc = 0x12345678, 12 }},
	{0x58180001, api.Instr{Op: api.Csrw, Ra: 6, Imm: api.Epc}, func(m *api.Machine) { m.Core.Csr[api.Epc], m.Core.Pc = 0xaabbccda, 12 }},
	{0x58040005, api.Instr{Op: api.Csrw, Ra: 1, Imm: api.Base}, func(m *api.Machine) { m.Core.Csr[api.Base], m.Core.Pc = 4, 12 }},
	{0x58180007, api.Instr{Op: api.Csrw, Ra: 6, Imm: api.Time}, func(m *api.Machine) { m.Core.Pc = 12 }},
	{0x58000000, api.Instr{Op: api.Csrw, Ra: 0, Imm: api.Status}, func(m *api.Machine) {
		m.Core.Csr[api.Status] &= 0xfffffff1
		m.Core.Pc = 12
	}},
	{0x5c000000, api.Instr{Op: api.Eret}, func(m *api.Machine) {
		status := m.Core.Csr[api.Status]
		m.Core.Csr[api.Status] = status&0xfffffffc + status&0xc/4
		m.Core.Pc = 0x31101112
	}},
	{0x60000000, api.Instr{Op: api.Halt}, func(m *api.Machine) { m.Halted, m.Core.Pc = true, 12 }},
	{0x64180000, api.Instr{Op: api.Out, Ra: 6}, func(m *api.Machine) { m.Out, m.Core.Pc = append(bytes.Clone(m.Out), 0xd8), 12 }},
	{0x64000000, api.Instr{Op: api.Out, Ra: 0}, func(m *api.Machine) { m.Out, m.Core.Pc = append(bytes.Clone(m.Out), 0), 12 }},
}

// P13.1, P13.3: each privileged opcode is executed in supervisor mode, and
// traps in user mode.
func TestPrivileged(t *testing.T) {
	for _, x := range ruling {
		for _, status := range statuses {
			m := numbered(status, x.w)
			if status&1 == 0 {
				expectPreceding(t, m, api.Trap{Cause: api.Privileged, Tval: x.w})
				continue
			}
			want := m
			x.do(&want)
			want.Time = now + 1
			expectBoth(t, m, want, none)
			expectCurrent(t, m, x.i, none)
		}
	}
}

// P13.1, P13.3: every privileged instruction there is traps in user mode with
// its word as value.
func TestEveryPrivileged(t *testing.T) {
	words := []uint32{0x5c000000, 0x60000000}
	for r := range uint32(api.Regs) {
		words = append(words, 0x64000000+r<<18)
		for n := range uint32(api.Csrs) {
			words = append(words, 0x54000000+r<<22+n, 0x58000000+r<<18+n)
		}
	}
	for _, w := range words {
		for _, status := range []uint32{0, 2, 4, 0xe, greatest - 1} {
			expectPreceding(t, holding(status, w), api.Trap{Cause: api.Privileged, Tval: w})
		}
	}
}

// fetching holds program counters from which no word can be fetched, of a
// memory of that many bytes.
var fetching = []struct {
	status, pc  uint32
	size        int
	base, bound uint32
	cause       int
}{
	// misaligned, also where there is no memory
	{1, 1, 64, 0, 0, api.Misaligned}, {1, 2, 64, 0, 0, api.Misaligned}, {1, 63, 64, 0, 0, api.Misaligned}, {1, 65, 64, 0, 0, api.Misaligned},
	{1, 2, 0, 0, 0, api.Misaligned}, {1, greatest, 64, 0, 0, api.Misaligned}, {1, half + 2, 64, 0, 0, api.Misaligned},
	{0, 1, 64, 16, 40, api.Misaligned}, {0, 38, 64, 16, 40, api.Misaligned}, {0, 41, 64, 16, 40, api.Misaligned}, {0, greatest - 1, 64, 16, 40, api.Misaligned},
	// outside of the memory in supervisor mode, where Base and Bound don't hold
	{1, 64, 64, 0, greatest, api.Access}, {1, 68, 64, 0, greatest, api.Access}, {1, greatest - 3, 64, 0, greatest, api.Access}, {1, half, 64, 0, 0, api.Access},
	{1, 64, 67, 0, greatest, api.Access}, {1, 0, 0, 0, greatest, api.Access}, {1, 0, 3, 0, greatest, api.Access}, {1, greatest - 15, 64, 16, greatest, api.Access},
	// outside of the bound in user mode
	{0, 40, 64, 16, 40, api.Access}, {0, 44, 64, 16, 40, api.Access}, {0, 40, 64, 16, 43, api.Access}, {0, 0, 64, 16, 0, api.Access}, {0, 0, 64, 16, 3, api.Access},
	{0, half, 64, 16, 40, api.Access}, {0, greatest - 3, 64, 16, greatest, api.Access}, {0, greatest - 15, 64, 16, greatest, api.Access},
	// inside of the bound, but outside of the memory
	{0, 48, 64, 16, 64, api.Access}, {0, 0, 64, 64, 4, api.Access}, {0, 0, 64, greatest - 3, greatest, api.Access}, {0, 4, 64, greatest - 3, greatest, api.Access},
	{0, 0, 64, 61, 4, api.Access}, {0, 0, 0, 0, 4, api.Access}, {0, half, 64, half, greatest, api.Access},
}

// P13.1: a fetch that traps, with its cause and the program counter as value.
func TestFetchTraps(t *testing.T) {
	for _, x := range fetching {
		for _, others := range []uint32{0, 2, 4, 8, 0xe, 0xfffffff0} {
			m := holding(x.status+others, 0)
			m.Mem = spacious(distinct(x.size))
			m.Core.Pc, m.Core.Csr[baseCsr], m.Core.Csr[boundCsr] = x.pc, x.base, x.bound
			expectPreceding(t, m, api.Trap{Cause: x.cause, Tval: x.pc})
		}
	}
}

// P13.1: a word is fetched from the first place to the last, by Base and Bound
// in user mode and without them in supervisor mode.
func TestFetchReaches(t *testing.T) {
	for _, x := range []struct {
		status, pc  uint32
		base, bound uint32
		at          int
	}{
		{1, 0, 16, 40, 0}, {1, 60, 16, 40, 60}, {1, 8, greatest, 0, 8}, {0, 0, 16, 40, 16}, {0, 36, 16, 40, 52}, {0, 36, 16, 43, 52},
		{0, 44, 16, greatest, 60}, {0, 0, 60, 4, 60}, {0, 0, 13, 4, 13}, {0, 60, 0, 64, 60},
	} {
		m := holding(x.status, 0)
		m.Core.Pc, m.Core.Csr[baseCsr], m.Core.Csr[boundCsr] = x.pc, x.base, x.bound
		m.Mem = make([]byte, size)
		copy(m.Mem[x.at:], []byte{0xff, 0xff, 0x4b, 0x24})
		want := m
		want.Core.Regs[1], want.Core.Pc, want.Time = m.Core.Regs[2]-1, x.pc+4, now+1
		expectBoth(t, m, want, none)
		expectCurrent(t, m, api.Instr{Op: api.Addi, Rd: 1, Ra: 2, Imm: -1}, none)
	}
}

// P13.1: a pending timer interrupt comes ahead of everything else, with cause
// and value of its own; Current and StepNoTimer go on with what comes next.
func TestTimerComesFirst(t *testing.T) {
	for _, x := range []struct {
		what      string
		status    uint32
		pc, w     uint32
		i         api.Instr
		preceding api.Trap
		own       api.Trap
	}{
		{"misaligned fetch", 0, 2, 0, api.Instr{}, api.Trap{Cause: api.Misaligned, Tval: 2}, none},
		{"misaligned fetch", 1, 2, 0, api.Instr{}, api.Trap{Cause: api.Misaligned, Tval: 2}, none},
		{"fetch outside of the memory", 1, 64, 0, api.Instr{}, api.Trap{Cause: api.Access, Tval: 64}, none},
		{"fetch outside of the bound", 0, 40, 0, api.Instr{}, api.Trap{Cause: api.Access, Tval: 40}, none},
		{"no instruction", 0, 8, 0, api.Instr{}, api.Trap{Cause: api.Illegal}, none},
		{"no instruction", 1, 8, greatest, api.Instr{}, api.Trap{Cause: api.Illegal, Tval: greatest}, none},
		{"privileged", 0, 8, 0x60000000, api.Instr{}, api.Trap{Cause: api.Privileged, Tval: 0x60000000}, none},
		{"call", 0, 8, 0x50000000, api.Instr{Op: api.Ecall}, none, api.Trap{Cause: api.Called}},
		{"call", 1, 8, 0x50000000, api.Instr{Op: api.Ecall}, none, api.Trap{Cause: api.Called}},
		{"load", 0, 8, word(api.Instr{Op: api.Lw, Imm: 40}), api.Instr{Op: api.Lw, Imm: 40}, none, api.Trap{Cause: api.Access, Tval: 40}},
		{"load", 1, 8, word(api.Instr{Op: api.Lw, Imm: 2}), api.Instr{Op: api.Lw, Imm: 2}, none, api.Trap{Cause: api.Misaligned, Tval: 2}},
		{"store", 1, 8, word(api.Instr{Op: api.Sb, Imm: 64}), api.Instr{Op: api.Sb, Imm: 64}, none, api.Trap{Cause: api.Access, Tval: 64}},
	} {
		m := interrupted(putting(holding(x.status, 0), x.pc, x.w))
		next := x.preceding
		if next == none {
			next = x.own
		}
		t.Log(x.what)
		expect(t, 0, m, trappedBy(m, api.Trap{Cause: api.Timer}), api.Trap{Cause: api.Timer})
		expect(t, 1, m, trappedBy(m, next), next)
		expectCurrent(t, m, x.i, x.preceding)
	}
}

// P13.1: a pending timer interrupt comes ahead of an instruction that would not
// trap, and nothing of the instruction is done: no byte is stored or put out,
// and the machine does not halt.
func TestTimerInterrupts(t *testing.T) {
	for _, status := range statuses {
		eachInstr(func(i api.Instr) {
			m := interrupted(holding(status, word(i)))
			expect(t, 0, m, trappedBy(m, api.Trap{Cause: api.Timer}), api.Trap{Cause: api.Timer})
		})
	}
}

// P13.1: a word that is no instruction is illegal in user mode, though it has
// the opcode of a privileged one; a fetch that traps comes ahead of the word
// that would be found without the relocation.
func TestEarlierRulesComeFirst(t *testing.T) {
	for _, w := range []uint32{0x54040007, 0x5400000c, 0x58400000, 0x5c000001, 0x60040000, 0x67ffffff} {
		expectPreceding(t, holding(0, w), api.Trap{Cause: api.Illegal, Tval: w})
	}
	for _, w := range []uint32{0, 0x60000000, 0x50000000, 0x244bffff} {
		m := holding(1, w)
		m.Core.Csr[statusCsr], m.Core.Csr[boundCsr] = 0, 11
		expectPreceding(t, m, api.Trap{Cause: api.Access, Tval: 8})
	}
	m := holding(0, word(api.Instr{Op: api.Csrr, Rd: 1, Imm: api.Time}))
	expectPreceding(t, m, api.Trap{Cause: api.Privileged, Tval: 0x54400007})
}

// P13.1: a halted machine stays as it is, whatever it would do otherwise.
// Current asks the machine as if it were not halted.
func TestHalted(t *testing.T) {
	eachSituation(func(m api.Machine) {
		halted := m
		halted.Halted = true
		expectBoth(t, halted, halted, none)
		i, trap := Current(m)
		expectCurrent(t, halted, i, trap)
		i, trap = preceding(m)
		expectCurrent(t, halted, i, trap)
	})
}

// P13.1: a machine that halts in a step does nothing in the next one.
func TestHalting(t *testing.T) {
	for n, x := range steppers {
		m, trap := x.step(holding(1, 0x60000000))
		if !m.Halted || m.Time != now+1 || m.Core.Pc != 12 || trap != none {
			t.Errorf("%s of Halt gives %v, %v", x.name, m, trap)
		}
		expect(t, n, m, m, none)
		expect(t, n, interrupted(m), interrupted(m), none)
	}
}

// times holds times around 0, 2^32 and 2^64 with the time one tick later.
var times = []struct{ time, next uint64 }{
	{0, 1}, {1, 2}, {0x7fffffff, 0x80000000}, {0xfffffffe, 0xffffffff}, {0xffffffff, 0x100000000}, {0x100000000, 0x100000001},
	{0x1ffffffff, 0x200000000}, {0x7fffffffffffffff, 0x8000000000000000}, {0xfffffffeffffffff, 0xffffffff00000000},
	{0xffffffff00000000, 0xffffffff00000001}, {0xfffffffffffffffe, 0xffffffffffffffff}, {0xffffffffffffffff, 0},
}

// P13.1, P13.3: each step takes one tick modulo 2^64, whether it traps or not.
func TestOneTick(t *testing.T) {
	for _, x := range times {
		eachInstr(func(i api.Instr) {
			for _, status := range []uint32{0, 1, 2, 3} {
				m := holding(status, word(i))
				m.Time = x.time
				for _, s := range steppers {
					if got, trap := s.step(m); got.Time != x.next {
						t.Fatalf("%s of %v at %#x, with %v, leads to the time %#x, want %#x", s.name, i, x.time, trap, got.Time, x.next)
					}
				}
			}
		})
	}
	for _, x := range times {
		for _, w := range noInstructions {
			m := holding(1, w)
			m.Time = x.time
			want := trappedBy(m, api.Trap{Cause: api.Illegal, Tval: w})
			want.Time = x.next
			expectBoth(t, m, want, api.Trap{Cause: api.Illegal, Tval: w})
		}
	}
}

// P13.1: the timer interrupt is pending at exactly the compare value and later,
// and not at one less, by the time before the step.
func TestCompare(t *testing.T) {
	for _, x := range []struct {
		time, compare uint64
		pending       bool
	}{
		{0, 0, true}, {0, 1, false}, {1, 1, true}, {1, 0, true}, {8, 9, false}, {9, 9, true}, {10, 9, true},
		{0xfffffffe, 0xffffffff, false}, {0xffffffff, 0xffffffff, true}, {0xffffffff, 0x100000000, false}, {0x100000000, 0x100000000, true},
		{0x100000000, 0xffffffff, true}, {0x100000000, 0x100000001, false}, {0x1ffffffff, 0x200000000, false}, {0x200000000, 0x1ffffffff, true},
		{0x100000005, 0x200000004, false}, {0x200000004, 0x100000005, true},
		{0xfffffffffffffffe, 0xffffffffffffffff, false}, {0xffffffffffffffff, 0xffffffffffffffff, true}, {0xffffffffffffffff, 0, true},
		{0, 0xffffffffffffffff, false}, {0x7fffffffffffffff, 0x8000000000000000, false}, {0x8000000000000000, 0x7fffffffffffffff, true},
	} {
		for _, status := range statuses {
			m := compared(numbered(status, 0x244bffff), x.compare)
			m.Time = x.time
			done := m
			done.Core.Regs[1], done.Core.Pc, done.Time = 7, 12, x.time+1
			interrupted := trappedBy(m, api.Trap{Cause: api.Timer})
			if x.pending && status&2 != 0 {
				expect(t, 0, m, interrupted, api.Trap{Cause: api.Timer})
			} else {
				expect(t, 0, m, done, none)
			}
			expect(t, 1, m, done, none)
		}
	}
}

// P13.1: Csrr of Time and Timeh reads the value before the step.
func TestTimeReads(t *testing.T) {
	for _, x := range times {
		for rd := 1; rd < api.Regs; rd++ {
			for _, s := range steppers {
				m := holding(1, word(api.Instr{Op: api.Csrr, Rd: rd, Imm: api.Time}))
				m.Time = x.time
				low, _ := s.step(m)
				m = holding(1, word(api.Instr{Op: api.Csrr, Rd: rd, Imm: api.Timeh}))
				m.Time = x.time
				high, _ := s.step(m)
				if low.Core.Regs[rd] != uint32(x.time) || high.Core.Regs[rd] != uint32(x.time>>32) {
					t.Fatalf("at %#x, %s reads %#x and %#x", x.time, s.name, low.Core.Regs[rd], high.Core.Regs[rd])
				}
				if low.Time != x.next || high.Time != x.next {
					t.Fatalf("at %#x, %s leads to the times %#x and %#x", x.time, s.name, low.Time, high.Time)
				}
			}
		}
	}
}

// P13.1: Current is the same whether the timer interrupt is pending or not, and
// at every time.
func TestCurrentIgnoresTimer(t *testing.T) {
	eachSituation(func(m api.Machine) {
		i, trap := Current(m)
		expectCurrent(t, interrupted(m), i, trap)
		m.Time = 0
		expectCurrent(t, m, i, trap)
		m.Core.Csr[cmpCsr], m.Core.Csr[cmphCsr] = 0, 0
		expectCurrent(t, m, i, trap)
	})
}

// P13.1: what Current says precedes execution is what StepNoTimer enters, and
// where it says nothing, the trap is one of execution.
func TestCurrentAgainstStep(t *testing.T) {
	eachSituation(func(m api.Machine) {
		i, preceding := Current(m)
		_, trap := StepNoTimer(m)
		if preceding != none && (trap != preceding || i != api.Instr{}) {
			t.Fatalf("Current of %v gives %v, %v, but the trap is %v", m, i, preceding, trap)
		}
		if preceding == none && (i == api.Instr{} || trap != none && trap.Cause != called && trap.Cause != access && trap.Cause != misaligned) {
			t.Fatalf("Current of %v gives %v, but the trap is %v", m, i, trap)
		}
	})
}

// P13.2: where no timer interrupt is pending, the two are the same.
func TestNoTimerPending(t *testing.T) {
	eachSituation(func(m api.Machine) {
		for _, quiet := range []api.Machine{compared(m, now+1), compared(m, math.MaxUint64), silenced(m)} {
			got, trap := Step(quiet)
			expect(t, 1, quiet, got, trap)
		}
	})
}

// silenced returns the machine with interrupts not enabled, at its compare
// value.
func silenced(m api.Machine) api.Machine {
	m.Core.Csr[statusCsr] &= 0xfffffffd
	return compared(m, now)
}

// P13.2: where one is pending, Step enters its trap, and StepNoTimer does what
// it does with a later compare value, which only Csrr and Csrw see.
func TestTimerPending(t *testing.T) {
	eachSituation(func(m api.Machine) {
		m = interrupted(m)
		expect(t, 0, m, trappedBy(m, api.Trap{Cause: api.Timer}), api.Trap{Cause: api.Timer})
		if i, _ := Current(m); i.Op == api.Csrr || i.Op == api.Csrw {
			return
		}
		later := compared(m, now+1)
		want, trap := StepNoTimer(later)
		if direct, directTrap := Step(later); !same(direct, want) || directTrap != trap {
			t.Fatalf("of %v, Step makes %v, %v and StepNoTimer %v, %v", later, direct, directTrap, want, trap)
		}
		expect(t, 1, m, compared(want, now), trap)
	})
}

// P13.3: a step takes one tick; after a trap the mode is supervisor; in user
// mode nothing is put out, the machine does not halt, and without a trap no CSR
// changes.
func checkConsequences(t *testing.T, m, p api.Machine, trap api.Trap) {
	t.Helper()
	if p.Time != m.Time+1 {
		t.Fatalf("the step of %v takes from %#x to %#x", m, m.Time, p.Time)
	}
	if trap != none && p.Core.Csr[statusCsr]&1 == 0 {
		t.Fatalf("the step of %v with %v leads to user mode", m, trap)
	}
	if m.Core.Csr[statusCsr]&1 != 0 {
		return
	}
	if p.Halted || !bytes.Equal(m.Out, p.Out) || trap == none && m.Core.Csr != p.Core.Csr {
		t.Fatalf("in user mode, the step of %v does what is privileged: %v", m, p)
	}
}

// P13.3: the consequences in every situation.
func TestConsequences(t *testing.T) {
	eachSituation(func(m api.Machine) {
		for _, x := range steppers {
			p, trap := x.step(m)
			checkConsequences(t, m, p, trap)
		}
	})
}

// copied is a machine with copies of its slices as far as their capacity goes.
type copied struct {
	m        api.Machine
	mem, out []byte
}

func copyOf(m api.Machine) copied {
	c := copied{m, bytes.Clone(m.Mem[:cap(m.Mem)]), bytes.Clone(m.Out[:cap(m.Out)])}
	c.m.Mem, c.m.Out = c.mem[:len(m.Mem)], c.out[:len(m.Out)]
	return c
}

// is reports whether the machine is still what was copied.
func (c copied) is(m api.Machine) bool {
	return same(c.m, m) && bytes.Equal(c.mem, m.Mem[:cap(m.Mem)]) && bytes.Equal(c.out, m.Out[:cap(m.Out)])
}

// overwrite writes over every byte of b that differs from old.
func overwrite(b, old []byte) {
	for n := range b {
		if n >= len(old) || b[n] != old[n] {
			b[n] ^= 0x5a
		}
	}
}

// eachArgument calls f with machines in every situation, halted and not, with
// slices that have spare capacity and not, and with an empty console output.
func eachArgument(f func(m api.Machine)) {
	turn := 0
	eachSituation(func(m api.Machine) {
		turn++
		m.Halted = turn%5 == 0
		switch turn % 3 {
		case 0:
			m.Mem, m.Out = bytes.Clone(m.Mem)[:size:size], nil
		case 1:
			m.Out = distinct(spare)[:0]
		}
		f(m)
	})
}

// P13.4: no call changes its argument, nor what lies behind the memory and the
// console output in their arrays.
func TestArgumentsAreLeftAlone(t *testing.T) {
	eachArgument(func(m api.Machine) {
		before := copyOf(m)
		for _, x := range steppers {
			if x.step(m); !before.is(m) {
				t.Fatalf("%s changed its argument to %v", x.name, m)
			}
		}
		if Current(m); !before.is(m) {
			t.Fatalf("Current changed its argument to %v", m)
		}
	})
}

// P13.4: what differs in a result, and what is appended to it, is not in the
// argument's arrays.
func TestChangingResults(t *testing.T) {
	memories, outputs := 0, 0
	eachArgument(func(m api.Machine) {
		before := copyOf(m)
		for _, x := range steppers {
			p, _ := x.step(m)
			if !bytes.Equal(p.Mem, m.Mem) {
				memories++
			}
			if !bytes.Equal(p.Out, m.Out) {
				outputs++
			}
			overwrite(p.Mem, before.m.Mem)
			overwrite(p.Out, before.m.Out)
			if !before.is(m) {
				t.Fatalf("what differs after %s of %v is the argument's", x.name, before.m)
			}
			p.Out, p.Mem = append(p.Out, 1), append(p.Mem, 2)
			if !before.is(m) {
				t.Fatalf("appending to the result of %s of %v changed the argument", x.name, before.m)
			}
		}
	})
	if memories == 0 || outputs == 0 {
		t.Errorf("%d memories and %d outputs were changed", memories, outputs)
	}
}

// P13.4: a memory that a store returned and a console output that Out returned
// are new ones altogether.
func TestNewResults(t *testing.T) {
	for _, i := range []api.Instr{{Op: api.Sw, Rd: 1, Imm: 12}, {Op: api.Sb, Rd: 1, Imm: 13}, {Op: api.Out, Ra: 1}} {
		for _, x := range steppers {
			m := holding(1, word(i))
			before := copyOf(m)
			p, _ := x.step(m)
			all := p.Out[:cap(p.Out)]
			if i.Op != api.Out {
				all = p.Mem[:cap(p.Mem)]
			}
			for n := range all {
				all[n] ^= 0x5a
			}
			if !before.is(m) {
				t.Errorf("%s of %v gives what shares bytes with the argument", x.name, i)
			}
		}
	}
}

// P13.4: results of one argument do not write over one another.
func TestResultsOfOneArgument(t *testing.T) {
	m := holding(1, word(api.Instr{Op: api.Out, Ra: 1}))
	other := m
	m.Core.Regs[1], other.Core.Regs[1] = 'x', 'y'
	x, _ := Step(m)
	y, _ := Step(other)
	x.Core.Pc, y.Core.Pc = start, start
	xx, _ := Step(x)
	x.Core.Regs[1] = 'z'
	xz, _ := Step(x)
	begin := string(distinct(3))
	if string(x.Out) != begin+"x" || string(y.Out) != begin+"y" || string(xx.Out) != begin+"xx" || string(xz.Out) != begin+"xz" {
		t.Errorf("the outputs became %q, %q, %q and %q", x.Out, y.Out, xx.Out, xz.Out)
	}
}

// P13.1: nil and empty memories and outputs are the same.
func TestEmptySlices(t *testing.T) {
	for _, empty := range [][]byte{nil, {}, distinct(spare)[:0]} {
		for _, status := range statuses {
			m := holding(status, word(api.Instr{Op: api.Out, Ra: 1}))
			m.Out = empty
			agree(t, m)
			m.Mem = empty
			expectPreceding(t, m, api.Trap{Cause: api.Access, Tval: start})
		}
	}
}

// The chapter's example.
func TestExample(t *testing.T) {
	m := api.Machine{Mem: make([]byte, 64)}
	m.Core.Pc = 8
	m.Core.Csr[statusCsr], m.Core.Csr[tvecCsr] = 1, 48
	got, trap := Step(m)
	if trap != (api.Trap{Cause: api.Illegal}) || got.Core.Pc != 48 || got.Core.Csr[causeCsr] != 1 || got.Core.Csr[tvalCsr] != 0 || got.Core.Csr[epcCsr] != 8 {
		t.Errorf("the word 0 at 8 leads to %v, %v", got.Core, trap)
	}
}

// program sets up a user mode, in which it calls; then the handler puts out an
// A, reads the cause and halts.
var program = []api.Instr{
	{Op: api.Addi, Rd: 1, Imm: 40},
	{Op: api.Csrw, Ra: 1, Imm: api.Tvec},
	{Op: api.Csrw, Ra: 1, Imm: api.Bound},
	{Op: api.Addi, Rd: 1, Imm: 24},
	{Op: api.Csrw, Ra: 1, Imm: api.Base},
	{Op: api.Eret},
	{Op: api.Addi, Rd: 2, Imm: 65}, // 0 in user mode
	{Op: api.Ecall},
	{Op: api.Out, Ra: 2},
	{Op: api.Halt},
	{Op: api.Out, Ra: 2}, // the handler
	{Op: api.Csrr, Rd: 3, Imm: api.Cause},
	{Op: api.Halt},
}

// P13.1: a program step by step, by hand: called, interrupted at the call, and
// interrupted in user mode ahead of everything.
func TestProgram(t *testing.T) {
	for _, x := range []struct {
		compare uint64
		pcs     []uint32
		cause   uint32
		out     string
		epc     uint32
	}{
		{8, []uint32{4, 8, 12, 16, 20, 0, 4, 40, 44, 48, 52}, called, "A", 4},
		{7, []uint32{4, 8, 12, 16, 20, 0, 4, 40, 44, 48, 52}, timer, "A", 4},
		{6, []uint32{4, 8, 12, 16, 20, 0, 40, 44, 48, 52}, timer, "\x00", 0},
	} {
		m := api.Machine{}
		for _, i := range program {
			w := word(i)
			m.Mem = append(m.Mem, byte(w), byte(w>>8), byte(w>>16), byte(w>>24))
		}
		m.Core.Csr[statusCsr] = 9 // supervisor mode, and interrupts enabled before
		m = compared(m, x.compare)
		for n, pc := range x.pcs {
			if m, _ = Step(m); m.Core.Pc != pc || m.Time != uint64(n+1) {
				t.Fatalf("%d: step %d leads to %d at the time %d, want %d", x.compare, n, m.Core.Pc, m.Time, pc)
			}
		}
		if !m.Halted || string(m.Out) != x.out || m.Core.Regs[3] != x.cause || m.Core.Csr[epcCsr] != x.epc || m.Core.Csr[statusCsr] != 9 {
			t.Errorf("%d: the program ends as %v", x.compare, m)
		}
	}
}

// dice gives numbers that look thrown, the same ones each time.
type dice uint64

// roll returns a number below n.
func (d *dice) roll(n int) int {
	*d = *d*6364136223846793005 + 1442695040888963407
	return int(uint64(*d) >> 33 % uint64(n))
}

// instruction returns a valid instruction with small immediates.
func (d *dice) instruction() api.Instr {
	for {
		i := api.Instr{Op: d.roll(api.Ops) + 1, Rd: d.roll(4), Ra: d.roll(4), Imm: int32(d.roll(48) - 12)}
		switch op := i.Op; {
		case op <= api.Shr:
			i.Rb, i.Imm = d.roll(4), 0
		case op == api.Lui || op == api.Jal:
			i.Ra = 0
		case op == api.Ecall || op == api.Eret:
			i = api.Instr{Op: op}
		case op == api.Halt: // seldom
			i = api.Instr{Op: op, Imm: int32(d.roll(3))}
		case op == api.Csrr:
			i.Ra, i.Imm = 0, int32(d.roll(api.Csrs))
		case op == api.Csrw:
			i.Rd, i.Imm = 0, int32(d.roll(api.Csrs))
		case op == api.Out:
			i.Rd, i.Imm = 0, 0
		}
		if i.Op != api.Halt || i.Imm == 0 {
			return i
		}
	}
}

// wanderer returns a machine with a thrown program, with some words that are
// none, a trap vector inside of it and a timer that is soon due.
func (d *dice) wanderer() api.Machine {
	m := api.Machine{Time: uint64(d.roll(4)) - 2}
	for range 64 {
		w := word(d.instruction())
		if d.roll(40) == 0 {
			w = uint32(d.roll(math.MaxInt32))
		}
		m.Mem = append(m.Mem, byte(w), byte(w>>8), byte(w>>16), byte(w>>24))
	}
	for r := range m.Core.Regs {
		m.Core.Regs[r] = uint32(4 * d.roll(64))
	}
	c := &m.Core.Csr
	c[statusCsr], c[epcCsr], c[tvecCsr] = uint32(d.roll(16)), uint32(4*d.roll(32)), uint32(4*d.roll(64))
	c[baseCsr], c[boundCsr] = uint32(4*d.roll(32)), uint32(64+d.roll(192))
	return compared(m, uint64(d.roll(50)))
}

// P13.1, P13.3: thrown programs, step by step, against the second machine.
func TestWandering(t *testing.T) {
	causes, halts := map[int]int{}, 0
	d := dice(13)
	for range 2000 {
		m := d.wanderer()
		for range 100 {
			agree(t, m)
			p, trap := Step(m)
			checkConsequences(t, m, p, trap)
			causes[trap.Cause]++
			if m = p; m.Halted {
				halts++
				break
			}
		}
	}
	for cause := range api.Causes + 1 {
		if causes[cause] == 0 {
			t.Errorf("no step with cause %d was wandered", cause)
		}
	}
	if halts == 0 {
		t.Error("no machine halted")
	}
}

// P13.1: a memory of 2^31 bytes, the greatest there may be. Only its last word is
// ever touched, so it takes hardly any room; but it slows down what runs after
// it, so it is the last.
func TestGreatestMemory(t *testing.T) {
	m := holding(1, 0)
	m.Mem = make([]byte, half)
	copy(m.Mem[half-4:], []byte{0, 0, 0, 0x50})
	m.Core.Pc = half - 4
	for _, status := range []uint32{0, 1} {
		m.Core.Csr[statusCsr], m.Core.Csr[baseCsr], m.Core.Csr[boundCsr] = status, 0, half
		want := trappedBy(m, api.Trap{Cause: api.Called})
		if got, trap := Step(m); got.Core != want.Core || got.Time != now+1 || len(got.Mem) != half || trap != (api.Trap{Cause: api.Called}) {
			t.Errorf("Ecall at the end of 2^31 bytes leads to %v, %v", got.Core, trap)
		}
	}
}
