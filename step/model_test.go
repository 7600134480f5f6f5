package step

import (
	"math"

	"gaoler/api"
)

// This file is a second machine, put together from the chapters' words in wide
// numbers and without the packages of the layers, so that a step can be held
// against it.

const (
	greatest = math.MaxUint32
	modulus  = 1 << 32
	half     = 1 << 31
	leastImm = -131072 // of 18 bits
	mostImm  = 131071
)

// The chapters' numbers, so that the constants are not held against themselves.
const (
	illegal    = 1
	privileged = 2
	access     = 3
	misaligned = 4
	called     = 5
	timer      = 6
)

const (
	statusCsr = 0
	epcCsr    = 1
	causeCsr  = 2
	tvalCsr   = 3
	tvecCsr   = 4
	baseCsr   = 5
	boundCsr  = 6
	timeCsr   = 7
	timehCsr  = 8
	cmpCsr    = 9
	cmphCsr   = 10
)

// masks holds the write mask of each CSR.
var masks = [api.Csrs]uint32{
	0xe, 0xfffffffc, greatest, greatest, 0xfffffffc, 0xfffffffc, greatest, 0, 0, greatest, greatest, greatest,
}

// wrapped is n modulo 2^32.
func wrapped(n int64) uint32 { return uint32((n%modulus + modulus) % modulus) }

// signed is v as a two's complement number.
func signed(v uint32) int64 {
	if v >= half {
		return int64(v) - modulus
	}
	return int64(v)
}

// bit is the bit of v that has that weight, 0 or 1.
func bit(v uint32, weight uint32) uint32 { return v / weight % 2 }

func inUserMode(m api.Machine) bool { return bit(m.Core.Csr[statusCsr], 1) == 0 }

// mixed takes each bit from v where the mask has it, and from old elsewhere.
func mixed(old, v, mask uint32) uint32 {
	sum := uint32(0)
	for n := range 32 {
		weight := uint32(1) << n
		if bit(mask, weight) == 1 {
			sum += bit(v, weight) * weight
		} else {
			sum += bit(old, weight) * weight
		}
	}
	return sum
}

// due reports whether the timer interrupt is pending: the halves of the time
// are held against the CSRs one by one.
func due(m api.Machine) bool {
	low, high := uint32(m.Time%modulus), uint32(m.Time/modulus)
	cmp, cmph := m.Core.Csr[cmpCsr], m.Core.Csr[cmphCsr]
	if bit(m.Core.Csr[statusCsr], 2) == 0 {
		return false
	}
	return high > cmph || high == cmph && low >= cmp
}

// place is where the cell of n bytes lies in the memory, or the trap: it asks
// of each byte whether the bound and the memory have it.
func place(m api.Machine, a uint32, n int) (int, api.Trap) {
	if n == 4 && a%4 != 0 {
		return 0, api.Trap{Cause: misaligned, Tval: a}
	}
	base, bound := uint64(0), uint64(len(m.Mem))
	if inUserMode(m) {
		base, bound = uint64(m.Core.Csr[baseCsr]), uint64(m.Core.Csr[boundCsr])
	}
	for i := range uint64(n) {
		if uint64(a)+i >= bound || base+uint64(a)+i >= uint64(len(m.Mem)) {
			return 0, api.Trap{Cause: access, Tval: a}
		}
	}
	return int(base + uint64(a)), api.Trap{}
}

// loaded is the value of the cell, or the trap.
func loaded(m api.Machine, a uint32, n int) (uint32, api.Trap) {
	at, t := place(m, a, n)
	if t.Cause != 0 {
		return 0, t
	}
	sum, weight := uint64(0), uint64(1)
	for _, b := range m.Mem[at : at+n] {
		sum += uint64(b) * weight
		weight *= 256
	}
	return uint32(sum), t
}

// stored is the machine with the low n bytes of v in the cell, or the trap.
func stored(m api.Machine, a uint32, n int, v uint32) (api.Machine, api.Trap) {
	at, t := place(m, a, n)
	if t.Cause != 0 {
		return m, t
	}
	m.Mem = append([]byte{}, m.Mem...)
	for i := range n {
		m.Mem[at+i] = byte(v % 256)
		v /= 256
	}
	return m, t
}

// parts is what a word would be if its opcode used every part of it. The low 18
// bits are in Imm, without a sign.
func parts(w uint32) api.Instr {
	return api.Instr{Op: int(w / (1 << 26)), Rd: int(w / (1 << 22) % 16), Ra: int(w / (1 << 18) % 16), Imm: int32(w % (1 << 18))}
}

// parsed is the instruction of that word and true, or false if there is none.
func parsed(w uint32) (api.Instr, bool) {
	i := parts(w)
	switch op := i.Op; {
	case 1 <= op && op <= 8:
		i.Rb, i.Imm = int(i.Imm), 0
		return i, i.Rb < 16
	case op == 10 || op == 18:
		return withSign(i), i.Ra == 0
	case op == 9 || 11 <= op && op <= 17 || op == 19:
		return withSign(i), true
	case op == 20 || op == 23 || op == 24:
		return i, i.Rd+i.Ra+int(i.Imm) == 0
	case op == 21:
		return i, i.Ra == 0 && i.Imm < 12
	case op == 22:
		return i, i.Rd == 0 && i.Imm < 12
	case op == 25:
		return i, i.Rd+int(i.Imm) == 0
	}
	return api.Instr{}, false
}

func withSign(i api.Instr) api.Instr {
	if i.Imm > mostImm {
		i.Imm -= 1 << 18
	}
	return i
}

// word is the word of a valid instruction.
func word(i api.Instr) uint32 {
	low := i.Imm + int32(i.Rb)
	if low < 0 {
		low += 1 << 18
	}
	return uint32(i.Op)<<26 + uint32(i.Rd)<<22 + uint32(i.Ra)<<18 + uint32(low)
}

// valueOf is the value of a register.
func valueOf(m api.Machine, r int) uint32 {
	if r == 0 {
		return 0
	}
	return m.Core.Regs[r]
}

// written is the machine with v in the register.
func written(m api.Machine, r int, v uint32) api.Machine {
	if r != 0 {
		m.Core.Regs[r] = v
	}
	return m
}

// goingTo is the machine with that program counter.
func goingTo(m api.Machine, pc uint32) api.Machine {
	m.Core.Pc = pc
	return m
}

// computed is the result of an opcode for two registers.
func computed(op int, x, y uint32) uint32 {
	switch op {
	case api.Add:
		return wrapped(int64(x) + int64(y))
	case api.Sub:
		return wrapped(int64(x) - int64(y))
	case api.And:
		return mixed(0, x, y)
	case api.Or:
		return mixed(x, greatest, y)
	case api.Xor:
		return mixed(x, greatest-x, y)
	case api.Slt:
		if signed(x) < signed(y) {
			return 1
		}
		return 0
	}
	for range y % 32 {
		if op == api.Shl {
			x = wrapped(int64(x) * 2)
		} else {
			x /= 2
		}
	}
	return x
}

// taken reports whether the branch is taken.
func taken(op int, z, x uint32) bool {
	switch op {
	case api.Beq:
		return z == x
	case api.Bne:
		return z != x
	}
	return signed(z) < signed(x)
}

// unprivileged is the machine after an instruction of the opcodes 1 to 20, and
// the trap; the machine does not matter if it traps.
func unprivileged(m api.Machine, i api.Instr) (api.Machine, api.Trap) {
	x, y, z := valueOf(m, i.Ra), valueOf(m, i.Rb), valueOf(m, i.Rd)
	pc, imm := int64(m.Core.Pc), int64(i.Imm)
	sum, behind, t := wrapped(int64(x)+imm), wrapped(pc+4), api.Trap{}
	switch i.Op {
	case api.Addi:
		return goingTo(written(m, i.Rd, sum), behind), t
	case api.Lui:
		return goingTo(written(m, i.Rd, wrapped(imm*16384)), behind), t
	case api.Lw, api.Lb:
		v, t := loaded(m, sum, map[int]int{api.Lw: 4, api.Lb: 1}[i.Op])
		return goingTo(written(m, i.Rd, v), behind), t
	case api.Sw, api.Sb:
		m, t = stored(m, sum, map[int]int{api.Sw: 4, api.Sb: 1}[i.Op], z)
		return goingTo(m, behind), t
	case api.Beq, api.Bne, api.Blt:
		if taken(i.Op, z, x) {
			return goingTo(m, wrapped(pc+4*imm)), t
		}
		return goingTo(m, behind), t
	case api.Jal:
		return goingTo(written(m, i.Rd, behind), wrapped(pc+4*imm)), t
	case api.Jalr:
		return goingTo(written(m, i.Rd, behind), sum), t
	case api.Ecall:
		return m, api.Trap{Cause: called}
	}
	return goingTo(written(m, i.Rd, computed(i.Op, x, y)), behind), t
}

// readAs is what a CSR reads as.
func readAs(m api.Machine, n int32) uint32 {
	switch n {
	case timeCsr:
		return uint32(m.Time % modulus)
	case timehCsr:
		return uint32(m.Time / modulus)
	}
	return m.Core.Csr[n]
}

// supervised is the machine after an instruction of the opcodes 21 to 25.
func supervised(m api.Machine, i api.Instr) api.Machine {
	next := wrapped(int64(m.Core.Pc) + 4)
	x := valueOf(m, i.Ra)
	switch i.Op {
	case api.Csrr:
		m = written(m, i.Rd, readAs(m, i.Imm))
	case api.Csrw:
		m.Core.Csr[i.Imm] = mixed(m.Core.Csr[i.Imm], x, masks[i.Imm])
	case api.Out:
		m.Out = append(append([]byte{}, m.Out...), byte(x%256))
	case api.Halt:
		m.Halted = true
	case api.Eret:
		next = m.Core.Csr[epcCsr]
		m.Core.Csr[statusCsr] += bit(m.Core.Csr[statusCsr], 4) + 2*bit(m.Core.Csr[statusCsr], 8) - m.Core.Csr[statusCsr]%4
	}
	return goingTo(m, next)
}

// entered is the machine in the trap.
func entered(m api.Machine, t api.Trap) api.Machine {
	c := &m.Core
	c.Csr[epcCsr], c.Csr[causeCsr], c.Csr[tvalCsr] = c.Pc, uint32(t.Cause), t.Tval
	c.Pc = c.Csr[tvecCsr]
	mode, ie := bit(c.Csr[statusCsr], 1), bit(c.Csr[statusCsr], 2)
	c.Csr[statusCsr] = c.Csr[statusCsr]/16*16 + 8*ie + 4*mode + 1
	return m
}

// preceding is the instruction at the program counter, or the trap that
// precedes its execution.
func preceding(m api.Machine) (api.Instr, api.Trap) {
	w, t := loaded(m, m.Core.Pc, 4)
	if t.Cause != 0 {
		return api.Instr{}, t
	}
	i, ok := parsed(w)
	if !ok {
		return api.Instr{}, api.Trap{Cause: illegal, Tval: w}
	}
	if i.Op > api.Ecall && inUserMode(m) {
		return api.Instr{}, api.Trap{Cause: privileged, Tval: w}
	}
	return i, t
}

// performed is the machine after the first rule that applies, and the trap; the
// machine does not matter if it traps.
func performed(m api.Machine, interruptible bool) (api.Machine, api.Trap) {
	if interruptible && due(m) {
		return m, api.Trap{Cause: timer}
	}
	i, t := preceding(m)
	switch {
	case t.Cause != 0:
		return m, t
	case i.Op > api.Ecall:
		return supervised(m, i), t
	}
	return unprivileged(m, i)
}

// after is the machine after a step, with the timer interrupt or without it,
// and the trap.
func after(m api.Machine, interruptible bool) (api.Machine, api.Trap) {
	if m.Halted {
		return m, api.Trap{}
	}
	p, t := performed(m, interruptible)
	if t.Cause != 0 {
		p = entered(m, t)
	}
	p.Time = m.Time + 1
	return p, t
}
