package exec

import (
	"bytes"
	"math"
	"testing"

	"gaoler/api"
)

const (
	greatest   = math.MaxUint32
	modulus    = 1 << 32
	half       = 1 << 31
	leastImm   = -131072 // of 18 bits
	mostImm    = 131071
	supervisor = 1  // Mode, in Status
	spare      = 16 // capacity behind the slices of a machine
)

// The opcodes by what they do.
var (
	computing = []int{api.Add, api.Sub, api.And, api.Or, api.Xor, api.Slt, api.Shl, api.Shr}
	accessing = []int{api.Lw, api.Lb, api.Sw, api.Sb}
	branching = []int{api.Beq, api.Bne, api.Blt}
)

// numbers holds registers such that two of them are equal or differ, and are
// register 0 or not.
var numbers = []int{0, 1, 7, 15}

// edges holds values of registers and program counters around 0, 2^31 and 2^32.
var edges = []uint32{
	0, 1, 2, 3, 4, 5, 31, 32, 33, half - 5, half - 4, half - 1, half, half + 1, half + 4,
	greatest - 8, greatest - 4, greatest - 3, greatest - 2, greatest - 1, greatest,
}

// pcs holds program counters around 0, 2^31 and 2^32, and behind them as far as
// the longest jumps go.
var pcs = []uint32{
	0, 1, 4, 8, 100, half - 4, half, half + 4, greatest - 7, greatest - 3, greatest,
	4 * mostImm, 4*mostImm + 4, -4 * leastImm, half - 4*mostImm, half - 4*leastImm, greatest - 4*mostImm, greatest - 4*mostImm + 1,
}

// immediates holds the least, the greatest, and those around 0.
var immediates = []int32{leastImm, leastImm + 1, -65536, -8, -4, -3, -2, -1, 0, 1, 2, 3, 4, 8, 65536, mostImm - 3, mostImm - 1, mostImm}

// distinct returns bytes of which no two of the first 250 are equal.
func distinct(size int) []byte {
	b := make([]byte, size)
	for i := range b {
		b[i] = byte(i%250)*7 + 0x83
	}
	return b
}

// machine returns a machine with that many bytes of memory and that Status,
// Base and Bound. All else in it is filled with numbers, also at index 0 of the
// registers, and its slices have spare capacity.
func machine(size int, status, base, bound uint32) api.Machine {
	m := api.Machine{Mem: distinct(size + spare)[:size], Out: distinct(3 + spare)[:3], Time: 0x123456789abc, Halted: status&4 != 0}
	m.Core.Pc = 0x5a5a5a5c
	for i := range m.Core.Regs {
		m.Core.Regs[i] = 0x01010101*uint32(i) + 0x80706050
	}
	for n := range m.Core.Csr {
		m.Core.Csr[n] = 0xaaaa0001 + 0x100*uint32(n)
	}
	m.Core.Csr[api.Status], m.Core.Csr[api.Base], m.Core.Csr[api.Bound] = status, base, bound
	return m
}

// same reports whether two machines are equal in every part.
func same(m, p api.Machine) bool {
	return m.Core == p.Core && bytes.Equal(m.Mem, p.Mem) && m.Time == p.Time && bytes.Equal(m.Out, p.Out) && m.Halted == p.Halted
}

// untouched reports whether the slices of a machine hold what machine put
// there, also in their spare capacity.
func untouched(m api.Machine) bool {
	return bytes.Equal(m.Mem[:cap(m.Mem)], distinct(cap(m.Mem))) && bytes.Equal(m.Out[:cap(m.Out)], distinct(cap(m.Out)))
}

// wrapped is n modulo 2^32.
func wrapped(n int64) uint32 { return uint32((n%modulus + modulus) % modulus) }

// signed is v as a two's complement number.
func signed(v uint32) int64 {
	if v >= half {
		return int64(v) - modulus
	}
	return int64(v)
}

// valueOf is the value of a register.
func valueOf(m api.Machine, r int) uint32 {
	if r == 0 {
		return 0
	}
	return m.Core.Regs[r]
}

// bitwise puts together what the rule says of each two bits.
func bitwise(x, y uint32, rule func(a, b bool) bool) uint32 {
	sum, weight := uint64(0), uint64(1)
	for range 32 {
		if rule(uint64(x)/weight%2 == 1, uint64(y)/weight%2 == 1) {
			sum += weight
		}
		weight *= 2
	}
	return uint32(sum)
}

// computed is the result of an opcode of FormR, made from wide numbers and from
// single bits.
func computed(op int, x, y uint32) uint32 {
	switch op {
	case api.Add:
		return wrapped(int64(x) + int64(y))
	case api.Sub:
		return wrapped(int64(x) - int64(y))
	case api.And:
		return bitwise(x, y, func(a, b bool) bool { return a && b })
	case api.Or:
		return bitwise(x, y, func(a, b bool) bool { return a || b })
	case api.Xor:
		return bitwise(x, y, func(a, b bool) bool { return a != b })
	case api.Slt:
		if signed(x) < signed(y) {
			return 1
		}
		return 0
	}
	for range y % 32 {
		if op == api.Shl {
			x = wrapped(int64(x) * 2)
		} else {
			x /= 2
		}
	}
	return x
}

// taken reports whether the branch is taken.
func taken(op int, z, x uint32) bool {
	switch op {
	case api.Beq:
		return signed(z)-signed(x) == 0
	case api.Bne:
		return signed(z)-signed(x) != 0
	}
	return signed(z)-signed(x) < 0
}

// place is where the cell of n bytes lies in the memory, or the trap: it asks
// of each byte whether the bound and the memory have it.
func place(m api.Machine, a uint32, n int) (int, api.Trap) {
	if n == 4 && a&3 != 0 {
		return 0, api.Trap{Cause: 4, Tval: a}
	}
	base, bound := uint64(m.Core.Csr[api.Base]), uint64(m.Core.Csr[api.Bound])
	if m.Core.Csr[api.Status]&supervisor != 0 {
		base, bound = 0, modulus
	}
	for i := range uint64(n) {
		if uint64(a)+i >= bound || base+uint64(a)+i >= uint64(len(m.Mem)) {
			return 0, api.Trap{Cause: 3, Tval: a}
		}
	}
	return int(base + uint64(a)), api.Trap{}
}

// accessed is the machine after a load or a store, but for its program counter,
// and the trap.
func accessed(m api.Machine, i api.Instr) (api.Machine, api.Trap) {
	n := 4
	if i.Op == api.Lb || i.Op == api.Sb {
		n = 1
	}
	at, trap := place(m, wrapped(int64(valueOf(m, i.Ra))+int64(i.Imm)), n)
	if trap.Cause != 0 {
		return m, trap
	}
	if i.Op == api.Lw || i.Op == api.Lb {
		sum, weight := uint64(0), uint64(1)
		for _, b := range m.Mem[at : at+n] {
			sum += uint64(b) * weight
			weight *= 256
		}
		return written(m, i.Rd, uint32(sum)), trap
	}
	v := valueOf(m, i.Rd)
	m.Mem = append([]byte{}, m.Mem...)
	for k := range n {
		m.Mem[at+k] = byte(v % 256)
		v /= 256
	}
	return m, trap
}

// written is the machine with v in the register.
func written(m api.Machine, r int, v uint32) api.Machine {
	if r != 0 {
		m.Core.Regs[r] = v
	}
	return m
}

// executed is what Execute returns, in numbers too wide to wrap around.
func executed(m api.Machine, i api.Instr) (api.Machine, api.Trap) {
	x, y, z := valueOf(m, i.Ra), valueOf(m, i.Rb), valueOf(m, i.Rd)
	pc, imm := int64(m.Core.Pc), int64(i.Imm)
	behind := wrapped(pc + 4)
	next, trap := behind, api.Trap{}
	switch i.Op {
	case api.Addi:
		m = written(m, i.Rd, wrapped(int64(x)+imm))
	case api.Lui:
		m = written(m, i.Rd, wrapped(imm*16384))
	case api.Lw, api.Lb, api.Sw, api.Sb:
		m, trap = accessed(m, i)
	case api.Beq, api.Bne, api.Blt:
		if taken(i.Op, z, x) {
			next = wrapped(pc + 4*imm)
		}
	case api.Jal:
		m, next = written(m, i.Rd, behind), wrapped(pc+4*imm)
	case api.Jalr:
		m, next = written(m, i.Rd, behind), wrapped(int64(x)+imm)
	case api.Ecall:
		trap = api.Trap{Cause: 5}
	default:
		m = written(m, i.Rd, computed(i.Op, x, y))
	}
	if trap.Cause == 0 {
		m.Core.Pc = next
	}
	return m, trap
}

// check holds Execute against executed.
func check(t *testing.T, m api.Machine, i api.Instr) {
	want, wantTrap := executed(m, i)
	got, gotTrap := Execute(m, i)
	if !same(got, want) || gotTrap != wantTrap {
		t.Fatalf("%v in %v\ngives %v, %v\nwant  %v, %v", i, m, got, gotTrap, want, wantTrap)
	}
}

// eachPair calls f with Rd and Ra, equal and different, 0 and not.
func eachPair(f func(rd, ra int)) {
	for _, rd := range numbers {
		for _, ra := range numbers {
			f(rd, ra)
		}
	}
}

// eachInstr calls f with every unprivileged opcode with all its registers and
// immediates.
func eachInstr(f func(i api.Instr)) {
	f(api.Instr{Op: api.Ecall})
	eachPair(func(rd, ra int) {
		for _, op := range computing {
			for _, rb := range numbers {
				f(api.Instr{Op: op, Rd: rd, Ra: ra, Rb: rb})
			}
		}
		for _, imm := range immediates {
			for _, op := range append(append([]int{api.Addi, api.Jalr}, accessing...), branching...) {
				f(api.Instr{Op: op, Rd: rd, Ra: ra, Imm: imm})
			}
			f(api.Instr{Op: api.Lui, Rd: rd, Imm: imm})
			f(api.Instr{Op: api.Jal, Rd: rd, Imm: imm})
		}
	})
}

// byHand holds instructions with what they give in the machine of TestByHand:
// the value stored at an index of the registers, the program counter, the
// trap, and the bytes of the memory if they change.
var byHand = []struct {
	pc   uint32
	i    api.Instr
	at   int
	v    uint32
	next uint32
	trap api.Trap
	mem  []byte
}{
	// two registers
	{100, api.Instr{Op: api.Add, Rd: 5, Ra: 1, Rb: 2}, 5, 13, 104, api.Trap{}, nil},
	{100, api.Instr{Op: api.Add, Rd: 5, Ra: 3, Rb: 2}, 5, 7, 104, api.Trap{}, nil},
	{100, api.Instr{Op: api.Add, Rd: 1, Ra: 1, Rb: 1}, 1, 10, 104, api.Trap{}, nil},
	{100, api.Instr{Op: api.Add, Rd: 4, Ra: 4, Rb: 4}, 4, 0, 104, api.Trap{}, nil},
	{100, api.Instr{Op: api.Add, Rd: 5, Ra: 0, Rb: 2}, 5, 8, 104, api.Trap{}, nil},
	{100, api.Instr{Op: api.Add, Rd: 5, Ra: 2, Rb: 0}, 5, 8, 104, api.Trap{}, nil},
	{100, api.Instr{Op: api.Add, Rd: 0, Ra: 1, Rb: 2}, 0, 77, 104, api.Trap{}, nil},
	{100, api.Instr{Op: api.Add}, 0, 77, 104, api.Trap{}, nil},
	{100, api.Instr{Op: api.Sub, Rd: 5, Ra: 1, Rb: 2}, 5, 0xfffffffd, 104, api.Trap{}, nil},
	{100, api.Instr{Op: api.Sub, Rd: 5, Ra: 2, Rb: 1}, 5, 3, 104, api.Trap{}, nil},
	{100, api.Instr{Op: api.Sub, Rd: 5, Ra: 0, Rb: 1}, 5, 0xfffffffb, 104, api.Trap{}, nil},
	{100, api.Instr{Op: api.And, Rd: 5, Ra: 6, Rb: 1}, 5, 0, 104, api.Trap{}, nil},
	{100, api.Instr{Op: api.Or, Rd: 5, Ra: 6, Rb: 1}, 5, 0xaabbccdd, 104, api.Trap{}, nil},
	{100, api.Instr{Op: api.Xor, Rd: 5, Ra: 6, Rb: 3}, 5, 0x55443327, 104, api.Trap{}, nil},
	{100, api.Instr{Op: api.Slt, Rd: 5, Ra: 3, Rb: 1}, 5, 1, 104, api.Trap{}, nil},
	{100, api.Instr{Op: api.Slt, Rd: 5, Ra: 1, Rb: 3}, 5, 0, 104, api.Trap{}, nil},
	{100, api.Instr{Op: api.Shl, Rd: 5, Ra: 2, Rb: 1}, 5, 256, 104, api.Trap{}, nil},
	{100, api.Instr{Op: api.Shr, Rd: 5, Ra: 4, Rb: 1}, 5, 0x04000000, 104, api.Trap{}, nil},
	{greatest - 3, api.Instr{Op: api.Add, Rd: 5, Ra: 1, Rb: 2}, 5, 13, 0, api.Trap{}, nil},
	{greatest, api.Instr{Op: api.Add, Rd: 5, Ra: 1, Rb: 2}, 5, 13, 3, api.Trap{}, nil},
	{half - 4, api.Instr{Op: api.Add, Rd: 5, Ra: 1, Rb: 2}, 5, 13, half, api.Trap{}, nil},
	// immediates
	{100, api.Instr{Op: api.Addi, Rd: 5, Ra: 1, Imm: 1}, 5, 6, 104, api.Trap{}, nil},
	{100, api.Instr{Op: api.Addi, Rd: 5, Ra: 1, Imm: -6}, 5, greatest, 104, api.Trap{}, nil},
	{100, api.Instr{Op: api.Addi, Rd: 5, Ra: 3, Imm: 1}, 5, 0, 104, api.Trap{}, nil},
	{100, api.Instr{Op: api.Addi, Rd: 5, Ra: 0, Imm: mostImm}, 5, 0x1ffff, 104, api.Trap{}, nil},
	{100, api.Instr{Op: api.Addi, Rd: 5, Ra: 0, Imm: leastImm}, 5, 0xfffe0000, 104, api.Trap{}, nil},
	{100, api.Instr{Op: api.Addi, Rd: 1, Ra: 1, Imm: 5}, 1, 10, 104, api.Trap{}, nil},
	{100, api.Instr{Op: api.Addi, Rd: 0, Ra: 1, Imm: 5}, 0, 77, 104, api.Trap{}, nil},
	{100, api.Instr{Op: api.Lui, Rd: 5, Imm: 1}, 5, 0x4000, 104, api.Trap{}, nil},
	{100, api.Instr{Op: api.Lui, Rd: 5, Imm: 0}, 5, 0, 104, api.Trap{}, nil},
	{100, api.Instr{Op: api.Lui, Rd: 5, Imm: -1}, 5, 0xffffc000, 104, api.Trap{}, nil},
	{100, api.Instr{Op: api.Lui, Rd: 5, Imm: mostImm}, 5, 0x7fffc000, 104, api.Trap{}, nil},
	{100, api.Instr{Op: api.Lui, Rd: 5, Imm: leastImm}, 5, 0x80000000, 104, api.Trap{}, nil},
	{100, api.Instr{Op: api.Lui, Rd: 0, Imm: 1}, 0, 77, 104, api.Trap{}, nil},
	// loads
	{100, api.Instr{Op: api.Lw, Rd: 5, Ra: 2, Imm: 0}, 5, 0x1b1a1918, 104, api.Trap{}, nil},
	{100, api.Instr{Op: api.Lw, Rd: 5, Ra: 2, Imm: -8}, 5, 0x13121110, 104, api.Trap{}, nil},
	{100, api.Instr{Op: api.Lw, Rd: 2, Ra: 2, Imm: -4}, 2, 0x17161514, 104, api.Trap{}, nil},
	{100, api.Instr{Op: api.Lw, Rd: 5, Ra: 3, Imm: 1}, 5, 0x13121110, 104, api.Trap{}, nil},
	{100, api.Instr{Op: api.Lw, Rd: 0, Ra: 2, Imm: 0}, 0, 77, 104, api.Trap{}, nil},
	{100, api.Instr{Op: api.Lw, Rd: 5, Ra: 0, Imm: 4}, 5, 0x17161514, 104, api.Trap{}, nil},
	{100, api.Instr{Op: api.Lw, Rd: 5, Ra: 2, Imm: 1}, 5, 55, 100, api.Trap{Cause: api.Misaligned, Tval: 9}, nil},
	{100, api.Instr{Op: api.Lw, Rd: 5, Ra: 2, Imm: 4}, 5, 55, 100, api.Trap{Cause: api.Access, Tval: 12}, nil},
	{100, api.Instr{Op: api.Lw, Rd: 0, Ra: 2, Imm: 4}, 0, 77, 100, api.Trap{Cause: api.Access, Tval: 12}, nil},
	{100, api.Instr{Op: api.Lw, Rd: 5, Ra: 0, Imm: -4}, 5, 55, 100, api.Trap{Cause: api.Access, Tval: greatest - 3}, nil},
	{100, api.Instr{Op: api.Lw, Rd: 5, Ra: 0, Imm: -1}, 5, 55, 100, api.Trap{Cause: api.Misaligned, Tval: greatest}, nil},
	{100, api.Instr{Op: api.Lb, Rd: 5, Ra: 2, Imm: 1}, 5, 0x19, 104, api.Trap{}, nil},
	{100, api.Instr{Op: api.Lb, Rd: 5, Ra: 2, Imm: 3}, 5, 0x1b, 104, api.Trap{}, nil},
	{100, api.Instr{Op: api.Lb, Rd: 5, Ra: 2, Imm: 4}, 5, 55, 100, api.Trap{Cause: api.Access, Tval: 12}, nil},
	{100, api.Instr{Op: api.Lb, Rd: 5, Ra: 3, Imm: 0}, 5, 55, 100, api.Trap{Cause: api.Access, Tval: greatest}, nil},
	{100, api.Instr{Op: api.Lb, Rd: 5, Ra: 4, Imm: 0}, 5, 55, 100, api.Trap{Cause: api.Access, Tval: half}, nil},
	// stores
	{100, api.Instr{Op: api.Sw, Rd: 6, Ra: 2, Imm: 0}, 6, 0xaabbccd8, 104, api.Trap{}, []byte{0x10, 0x11, 0x12, 0x13, 0x14, 0x15, 0x16, 0x17, 0xd8, 0xcc, 0xbb, 0xaa}},
	{100, api.Instr{Op: api.Sw, Rd: 2, Ra: 2, Imm: -8}, 2, 8, 104, api.Trap{}, []byte{8, 0, 0, 0, 0x14, 0x15, 0x16, 0x17, 0x18, 0x19, 0x1a, 0x1b}},
	{100, api.Instr{Op: api.Sw, Rd: 0, Ra: 2, Imm: -4}, 0, 77, 104, api.Trap{}, []byte{0x10, 0x11, 0x12, 0x13, 0, 0, 0, 0, 0x18, 0x19, 0x1a, 0x1b}},
	{100, api.Instr{Op: api.Sw, Rd: 6, Ra: 1, Imm: 0}, 6, 0xaabbccd8, 100, api.Trap{Cause: api.Misaligned, Tval: 5}, nil},
	{100, api.Instr{Op: api.Sw, Rd: 6, Ra: 2, Imm: 4}, 6, 0xaabbccd8, 100, api.Trap{Cause: api.Access, Tval: 12}, nil},
	{100, api.Instr{Op: api.Sw, Rd: 6, Ra: 0, Imm: leastImm}, 6, 0xaabbccd8, 100, api.Trap{Cause: api.Access, Tval: 0xfffe0000}, nil},
	{100, api.Instr{Op: api.Sb, Rd: 6, Ra: 1, Imm: 0}, 6, 0xaabbccd8, 104, api.Trap{}, []byte{0x10, 0x11, 0x12, 0x13, 0x14, 0xd8, 0x16, 0x17, 0x18, 0x19, 0x1a, 0x1b}},
	{100, api.Instr{Op: api.Sb, Rd: 6, Ra: 2, Imm: 3}, 6, 0xaabbccd8, 104, api.Trap{}, []byte{0x10, 0x11, 0x12, 0x13, 0x14, 0x15, 0x16, 0x17, 0x18, 0x19, 0x1a, 0xd8}},
	{100, api.Instr{Op: api.Sb, Rd: 0, Ra: 0, Imm: 0}, 0, 77, 104, api.Trap{}, []byte{0, 0x11, 0x12, 0x13, 0x14, 0x15, 0x16, 0x17, 0x18, 0x19, 0x1a, 0x1b}},
	{100, api.Instr{Op: api.Sb, Rd: 6, Ra: 2, Imm: 4}, 6, 0xaabbccd8, 100, api.Trap{Cause: api.Access, Tval: 12}, nil},
	// branches: Rd is the left operand
	{100, api.Instr{Op: api.Beq, Rd: 1, Ra: 1, Imm: 5}, 1, 5, 120, api.Trap{}, nil},
	{100, api.Instr{Op: api.Beq, Rd: 1, Ra: 2, Imm: 5}, 1, 5, 104, api.Trap{}, nil},
	{100, api.Instr{Op: api.Beq, Rd: 0, Ra: 0, Imm: 0}, 0, 77, 100, api.Trap{}, nil},
	{100, api.Instr{Op: api.Beq, Rd: 0, Ra: 7, Imm: -1}, 7, 77, 104, api.Trap{}, nil},
	{100, api.Instr{Op: api.Beq, Rd: 0, Ra: 0, Imm: -26}, 0, 77, greatest - 3, api.Trap{}, nil},
	{100, api.Instr{Op: api.Bne, Rd: 1, Ra: 2, Imm: -25}, 1, 5, 0, api.Trap{}, nil},
	{100, api.Instr{Op: api.Bne, Rd: 1, Ra: 1, Imm: -25}, 1, 5, 104, api.Trap{}, nil},
	{100, api.Instr{Op: api.Bne, Rd: 0, Ra: 7, Imm: mostImm}, 7, 77, 524384, api.Trap{}, nil},
	{100, api.Instr{Op: api.Blt, Rd: 3, Ra: 1, Imm: 2}, 3, greatest, 108, api.Trap{}, nil},
	{100, api.Instr{Op: api.Blt, Rd: 1, Ra: 3, Imm: 2}, 1, 5, 104, api.Trap{}, nil},
	{100, api.Instr{Op: api.Blt, Rd: 1, Ra: 2, Imm: 2}, 1, 5, 108, api.Trap{}, nil},
	{100, api.Instr{Op: api.Blt, Rd: 2, Ra: 1, Imm: 2}, 2, 8, 104, api.Trap{}, nil},
	{100, api.Instr{Op: api.Blt, Rd: 1, Ra: 1, Imm: 2}, 1, 5, 104, api.Trap{}, nil},
	{100, api.Instr{Op: api.Blt, Rd: 4, Ra: 3, Imm: leastImm}, 4, half, 0xfff80064, api.Trap{}, nil},
	{greatest - 3, api.Instr{Op: api.Blt, Rd: 1, Ra: 1, Imm: 2}, 1, 5, 0, api.Trap{}, nil},
	{greatest - 3, api.Instr{Op: api.Beq, Rd: 1, Ra: 1, Imm: 2}, 1, 5, 4, api.Trap{}, nil},
	// jumps
	{8, api.Instr{Op: api.Jal, Rd: 1, Imm: 2}, 1, 12, 16, api.Trap{}, nil},
	{100, api.Instr{Op: api.Jal, Rd: 5, Imm: -30}, 5, 104, 0xffffffec, api.Trap{}, nil},
	{100, api.Instr{Op: api.Jal, Rd: 5, Imm: 0}, 5, 104, 100, api.Trap{}, nil},
	{100, api.Instr{Op: api.Jal, Rd: 0, Imm: 3}, 0, 77, 112, api.Trap{}, nil},
	{100, api.Instr{Op: api.Jal, Rd: 5, Imm: mostImm}, 5, 104, 524384, api.Trap{}, nil},
	{100, api.Instr{Op: api.Jal, Rd: 5, Imm: leastImm}, 5, 104, 0xfff80064, api.Trap{}, nil},
	{greatest - 3, api.Instr{Op: api.Jal, Rd: 5, Imm: 1}, 5, 0, 0, api.Trap{}, nil},
	{100, api.Instr{Op: api.Jalr, Rd: 5, Ra: 2, Imm: 6}, 5, 104, 14, api.Trap{}, nil},
	{100, api.Instr{Op: api.Jalr, Rd: 2, Ra: 2, Imm: 6}, 2, 104, 14, api.Trap{}, nil},
	{100, api.Instr{Op: api.Jalr, Rd: 0, Ra: 2, Imm: 0}, 0, 77, 8, api.Trap{}, nil},
	{100, api.Instr{Op: api.Jalr, Rd: 5, Ra: 0, Imm: 12}, 5, 104, 12, api.Trap{}, nil},
	{100, api.Instr{Op: api.Jalr, Rd: 5, Ra: 0, Imm: leastImm}, 5, 104, 0xfffe0000, api.Trap{}, nil},
	{100, api.Instr{Op: api.Jalr, Rd: 5, Ra: 3, Imm: 2}, 5, 104, 1, api.Trap{}, nil},
	{100, api.Instr{Op: api.Jalr, Rd: 0, Ra: 0, Imm: 0}, 0, 77, 0, api.Trap{}, nil},
	{greatest - 3, api.Instr{Op: api.Jalr, Rd: 5, Ra: 2, Imm: 0}, 5, 0, 8, api.Trap{}, nil},
	// the call
	{100, api.Instr{Op: api.Ecall}, 1, 5, 100, api.Trap{Cause: api.Called}, nil},
	{greatest - 3, api.Instr{Op: api.Ecall}, 1, 5, greatest - 3, api.Trap{Cause: api.Called}, nil},
}

// P11.1: named instructions of each opcode.
func TestByHand(t *testing.T) {
	for n, x := range byHand {
		m := machine(12, supervisor, 4, 4)
		for at := range m.Mem {
			m.Mem[at] = 0x10 + byte(at)
		}
		m.Core.Regs = [api.Regs]uint32{0: 77, 1: 5, 2: 8, 3: greatest, 4: half, 5: 55, 6: 0xaabbccd8, 7: 77}
		m.Core.Pc = x.pc
		want := m
		want.Core.Regs[x.at], want.Core.Pc = x.v, x.next
		if x.mem != nil {
			want.Mem = x.mem
		}
		if got, trap := Execute(m, x.i); !same(got, want) || trap != x.trap {
			t.Errorf("%d, %v: gives %v, %v\nwant %v, %v", n, x.i, got, trap, want, x.trap)
		}
	}
}

// P11.1: in user mode Base and Bound hold.
func TestUserByHand(t *testing.T) {
	for _, x := range []struct {
		op    int
		imm   int32
		v     uint32
		cause int
		mem   []byte
	}{
		{api.Lw, 0, 0x17161514, 0, nil}, {api.Lw, 4, 0xaabbccdd, api.Access, nil}, {api.Lw, 2, 0xaabbccdd, api.Misaligned, nil}, {api.Lw, -4, 0xaabbccdd, api.Access, nil},
		{api.Lb, 0, 0x14, 0, nil}, {api.Lb, 4, 0x18, 0, nil}, {api.Lb, 5, 0xaabbccdd, api.Access, nil}, {api.Lb, -1, 0xaabbccdd, api.Access, nil},
		{api.Sw, 0, 0xaabbccdd, 0, []byte{0x10, 0x11, 0x12, 0x13, 0xdd, 0xcc, 0xbb, 0xaa, 0x18, 0x19, 0x1a, 0x1b}},
		{api.Sw, 4, 0xaabbccdd, api.Access, nil}, {api.Sw, 1, 0xaabbccdd, api.Misaligned, nil},
		{api.Sb, 4, 0xaabbccdd, 0, []byte{0x10, 0x11, 0x12, 0x13, 0x14, 0x15, 0x16, 0x17, 0xdd, 0x19, 0x1a, 0x1b}},
		{api.Sb, 5, 0xaabbccdd, api.Access, nil},
	} {
		m := machine(12, 0, 4, 5)
		for at := range m.Mem {
			m.Mem[at] = 0x10 + byte(at)
		}
		m.Core.Regs[3] = 0xaabbccdd
		want, wantTrap := m, api.Trap{}
		want.Core.Regs[3] = x.v
		if x.mem != nil {
			want.Mem = x.mem
		}
		if x.cause == 0 {
			want.Core.Pc = m.Core.Pc + 4
		} else {
			wantTrap = api.Trap{Cause: x.cause, Tval: uint32(x.imm)}
		}
		if got, trap := Execute(m, api.Instr{Op: x.op, Rd: 3, Imm: x.imm}); !same(got, want) || trap != wantTrap {
			t.Errorf("opcode %d at %d gives %v, %v\nwant %v, %v", x.op, x.imm, got, trap, want, wantTrap)
		}
	}
}

// P11.1: the results of two registers, equal and different, at every two edges.
func TestComputeEverywhere(t *testing.T) {
	turn := 0
	eachPair(func(rd, ra int) {
		for _, rb := range numbers {
			for _, x := range edges {
				for _, y := range edges {
					m := machine(4, supervisor, 0, 0)
					m.Core.Regs[ra], m.Core.Regs[rb] = x, y
					m.Core.Pc = pcs[turn%len(pcs)]
					turn++
					for _, op := range computing {
						check(t, m, api.Instr{Op: op, Rd: rd, Ra: ra, Rb: rb})
					}
				}
			}
		}
	})
}

// P11.1: every instruction at every program counter.
func TestProgramCounterEverywhere(t *testing.T) {
	for _, pc := range pcs {
		for _, status := range []uint32{0, supervisor} {
			m := machine(12, status, 4, 8)
			m.Core.Pc = pc
			eachInstr(func(i api.Instr) { check(t, m, i) })
		}
	}
}

// P11.1: Addi and Jalr at the edges of registers and immediates, where Rd is Ra
// and where it is not; Lui, which has no other register.
func TestImmediateEverywhere(t *testing.T) {
	eachPair(func(rd, ra int) {
		for _, imm := range immediates {
			for _, x := range append(edges, uint32(-imm), half-uint32(imm)) {
				m := machine(4, supervisor, 0, 0)
				m.Core.Regs[ra] = x
				check(t, m, api.Instr{Op: api.Addi, Rd: rd, Ra: ra, Imm: imm})
				check(t, m, api.Instr{Op: api.Jalr, Rd: rd, Ra: ra, Imm: imm})
				check(t, m, api.Instr{Op: api.Lui, Rd: rd, Imm: imm})
			}
		}
	})
}

// P11.1: Lui and Addi at every immediate there is.
func TestAllImmediates(t *testing.T) {
	m := machine(0, supervisor, 0, 0)
	for imm := int32(leastImm); imm <= mostImm; imm++ {
		check(t, m, api.Instr{Op: api.Lui, Rd: 3, Imm: imm})
		check(t, m, api.Instr{Op: api.Addi, Rd: 3, Ra: 4, Imm: imm})
	}
}

// P11.1: branches taken and not taken, by every two edges.
func TestBranchEverywhere(t *testing.T) {
	turn := 0
	eachPair(func(rd, ra int) {
		for _, z := range edges {
			for _, x := range edges {
				m := machine(4, supervisor, 0, 0)
				m.Core.Regs[ra], m.Core.Regs[rd] = x, z
				m.Core.Pc = pcs[turn%len(pcs)]
				turn++
				for _, op := range branching {
					for _, imm := range immediates {
						check(t, m, api.Instr{Op: op, Rd: rd, Ra: ra, Imm: imm})
					}
				}
			}
		}
	})
}

// P11.1: jumps from every edge.
func TestJumpEverywhere(t *testing.T) {
	for _, pc := range append(pcs, edges...) {
		for _, imm := range immediates {
			for rd := range api.Regs {
				m := machine(4, 0, 0, 0)
				m.Core.Pc = pc
				check(t, m, api.Instr{Op: api.Jal, Rd: rd, Imm: imm})
				check(t, m, api.Instr{Op: api.Jalr, Rd: rd, Ra: 9, Imm: imm})
			}
		}
	}
}

// eachAccess calls f with loads and stores in both modes, with Base and Bound
// inside the memory and behind it, at addresses around all their ends.
func eachAccess(f func(m api.Machine, i api.Instr)) {
	for _, size := range []int{0, 3, 33} {
		end := uint32(size)
		for _, x := range []struct{ status, base, bound uint32 }{
			{supervisor, 0, 0}, {0xf, 8, 4}, {greatest, greatest, greatest}, {0, 0, 0}, {0, 0, end}, {0, 4, 8}, {0, 4, 7}, {0, 1, end},
			{0, 8, greatest}, {0, end, 8}, {0, end - 4, 4}, {0xe, half, greatest}, {greatest - 1, greatest - 3, greatest},
		} {
			m := machine(size, x.status, x.base, x.bound)
			for _, at := range []uint32{0, x.bound, end, end - x.base, half} {
				for off := range uint32(11) {
					eachAccessAt(m, at+off-5, f)
				}
			}
		}
	}
}

// eachAccessAt calls f with loads and stores at the address: with each
// immediate and the register that makes it up, and with register 0, where the
// immediate alone is the address.
func eachAccessAt(m api.Machine, a uint32, f func(m api.Machine, i api.Instr)) {
	eachPair(func(rd, ra int) {
		for n, imm := range []int32{leastImm, -1, 0, 3, mostImm} {
			if near := int32(a); ra == 0 && leastImm <= near && near <= mostImm {
				imm = near
			}
			m.Core.Regs[ra] = wrapped(int64(a) - int64(imm))
			if ra != rd {
				m.Core.Regs[rd] = []uint32{0xaabbccdd, 0x100, 0xff, greatest}[(n+rd)%4]
			}
			for _, op := range accessing {
				f(m, api.Instr{Op: op, Rd: rd, Ra: ra, Imm: imm})
			}
		}
	})
}

// P11.1: the value loaded, the bytes stored, and the traps, around every edge.
func TestAccessEverywhere(t *testing.T) {
	causes := map[int]int{}
	eachAccess(func(m api.Machine, i api.Instr) {
		check(t, m, i)
		_, trap := Execute(m, i)
		causes[trap.Cause]++
	})
	for _, cause := range []int{0, api.Access, api.Misaligned} {
		if causes[cause] == 0 {
			t.Errorf("no access with cause %d was tried", cause)
		}
	}
}

// P11.1: the greatest immediates lead to cells of a memory that has them, and
// the least do from its end.
func TestFarAccess(t *testing.T) {
	for _, status := range []uint32{0, supervisor} {
		m := machine(mostImm+5, status, 0, greatest)
		m.Core.Regs[2] = mostImm + 1
		for _, op := range accessing {
			for _, imm := range []int32{mostImm, mostImm - 3} {
				check(t, m, api.Instr{Op: op, Rd: 3, Imm: imm})
			}
			for _, imm := range []int32{leastImm, leastImm + 1, -1, 0, 3, 4} {
				check(t, m, api.Instr{Op: op, Rd: 3, Ra: 2, Imm: imm})
			}
		}
	}
}

// P11.1: nil and empty memories and outputs are the same to every instruction.
func TestNoMemory(t *testing.T) {
	for _, memory := range [][]byte{nil, {}, distinct(spare)[:0]} {
		m := machine(0, supervisor, 0, 0)
		m.Mem, m.Out = memory, nil
		eachInstr(func(i api.Instr) { check(t, m, i) })
	}
}

// P11.1: Ecall traps in both modes, at every program counter.
func TestEcall(t *testing.T) {
	for _, status := range []uint32{0, 1, 2, 0xe, 0xf, greatest} {
		for _, pc := range append(pcs, edges...) {
			m := machine(12, status, 4, 8)
			m.Core.Pc = pc
			if got, trap := Execute(m, api.Instr{Op: api.Ecall}); !same(got, m) || trap != (api.Trap{Cause: 5, Tval: 0}) {
				t.Errorf("Ecall at %#x with status %#x gives %v, %v", pc, status, got, trap)
			}
		}
	}
}

// P11.1: sums below and above 2^32; every other word of the processor stays.
func TestAdvance(t *testing.T) {
	for _, pc := range append(pcs, edges...) {
		for _, by := range append(pcs, edges...) {
			c := machine(0, 0xa, 5, 6).Core
			c.Pc = pc
			want := c
			want.Pc = wrapped(int64(pc) + int64(by))
			if got := Advance(c, by); got != want {
				t.Fatalf("Advance(%v, %#x) = %v, want %v", c, by, got, want)
			}
		}
	}
}

// P11.1: named sums.
func TestAdvanceByHand(t *testing.T) {
	for _, x := range []struct{ pc, by, want uint32 }{
		{0, 0, 0}, {0, 4, 4}, {4, 0xfffffff8, 0xfffffffc}, {0xfffffffc, 4, 0}, {greatest, 1, 0}, {greatest, greatest, greatest - 1},
		{half, half, 0}, {half - 1, 1, half}, {half, half - 1, greatest}, {3, 1, 4}, {12, greatest - 3, 8},
	} {
		if got := Advance(api.Core{Pc: x.pc}, x.by); got != (api.Core{Pc: x.want}) {
			t.Errorf("Advance by %#x from %#x leads to %#x, want %#x", x.by, x.pc, got.Pc, x.want)
		}
	}
}

// P11.1: a machine that traps is the machine as it was.
func TestTrapsChangeNothing(t *testing.T) {
	eachAccess(func(m api.Machine, i api.Instr) {
		if got, trap := Execute(m, i); trap != (api.Trap{}) && !same(got, m) {
			t.Fatalf("%v traps with %v and changes %v to %v", i, trap, m, got)
		}
	})
}

// othersKept reports whether two machines are equal but for the register Rd,
// the program counter and the memory.
func othersKept(m, p api.Machine, rd int) bool {
	for r := range m.Core.Regs {
		if r != rd && m.Core.Regs[r] != p.Core.Regs[r] {
			return false
		}
	}
	return m.Core.Csr == p.Core.Csr && m.Time == p.Time && bytes.Equal(m.Out, p.Out) && m.Halted == p.Halted
}

// P11.2: no instruction changes a register other than Rd, a CSR, the console
// output, the time or the halted flag, nor what is stored at index 0 of the
// registers.
func TestOthersAreKept(t *testing.T) {
	for _, status := range []uint32{0, 1, 4, 0xf, greatest} {
		for _, time := range []uint64{0, 1, greatest, math.MaxUint64} {
			m := machine(12, status, 4, 8)
			m.Time = time
			eachInstr(func(i api.Instr) {
				got, _ := Execute(m, i)
				if !othersKept(m, got, i.Rd) || got.Core.Regs[0] != m.Core.Regs[0] {
					t.Fatalf("%v changes %v to %v", i, m, got)
				}
			})
		}
	}
	eachAccess(func(m api.Machine, i api.Instr) {
		if got, _ := Execute(m, i); !othersKept(m, got, i.Rd) || got.Core.Regs[0] != m.Core.Regs[0] {
			t.Fatalf("%v changes %v to %v", i, m, got)
		}
	})
}

// P11.2: stores, branches and Ecall write no register at all, and only stores
// change the memory.
func TestWhatIsWritten(t *testing.T) {
	for _, status := range []uint32{0, supervisor} {
		m := machine(12, status, 4, 8)
		m.Core.Regs[7] = 4
		eachInstr(func(i api.Instr) {
			got, _ := Execute(m, i)
			switch i.Op {
			case api.Sw, api.Sb, api.Beq, api.Bne, api.Blt, api.Ecall:
				if got.Core.Regs != m.Core.Regs {
					t.Fatalf("%v changes the registers to %x", i, got.Core.Regs)
				}
			}
			if i.Op != api.Sw && i.Op != api.Sb && !bytes.Equal(got.Mem, m.Mem) {
				t.Fatalf("%v changes the memory to %x", i, got.Mem)
			}
		})
	}
}

// P11.3: no call changes the memory or the console output of its argument, nor
// what lies behind them in their arrays.
func TestArgumentsAreLeftAlone(t *testing.T) {
	eachAccess(func(m api.Machine, i api.Instr) {
		before := m
		if Execute(m, i); !untouched(m) || !same(m, before) {
			t.Fatalf("%v changed its argument", i)
		}
	})
	for _, status := range []uint32{0, supervisor} {
		m := machine(12, status, 4, 8)
		before := m
		eachInstr(func(i api.Instr) {
			if Execute(m, i); !untouched(m) || !same(m, before) {
				t.Fatalf("%v changed its argument", i)
			}
		})
	}
}

// P11.3: a memory that a store returned is a new one: what is written to it,
// also behind its end, is not seen in the argument.
func TestChangingResults(t *testing.T) {
	stores := 0
	eachAccess(func(m api.Machine, i api.Instr) {
		p, trap := Execute(m, i)
		if i.Op != api.Sw && i.Op != api.Sb || trap != (api.Trap{}) {
			return
		}
		stores++
		all := p.Mem[:cap(p.Mem)]
		for at := range all {
			all[at] ^= 0xff
		}
		if !untouched(m) {
			t.Fatalf("the memory after %v shares bytes with the argument's", i)
		}
	})
	if stores == 0 {
		t.Error("nothing was stored")
	}
}

// P11.3: a change of the argument's memory is not seen after a store, and two
// results share no memory.
func TestChangingArguments(t *testing.T) {
	for _, op := range []int{api.Sw, api.Sb} {
		m := machine(12, supervisor, 0, 0)
		i := api.Instr{Op: op, Rd: 3, Imm: 4}
		want, _ := executed(m, i)
		first, _ := Execute(m, i)
		second, _ := Execute(m, i)
		for at := range m.Mem {
			m.Mem[at] ^= 0xff
			first.Mem[at] ^= 0xff
		}
		if !same(second, want) {
			t.Errorf("the machine after %v became %v, want %v", i, second, want)
		}
	}
}

// The chapter's example.
func TestExample(t *testing.T) {
	m := machine(64, supervisor, 0, 0)
	m.Core.Pc = 8
	got, trap := Execute(m, api.Instr{Op: api.Jal, Rd: 1, Imm: 2})
	if got.Core.Regs[1] != 12 || got.Core.Pc != 16 || trap != (api.Trap{}) {
		t.Errorf("Jal r1, 2 at 8 gives r1 = %d, pc = %d, %v", got.Core.Regs[1], got.Core.Pc, trap)
	}
}

// P1: instructions that the chapter leaves open still get an answer, and leave
// the argument alone.
func TestOpenArgumentsEnd(t *testing.T) {
	m := machine(12, supervisor, 0, 0)
	strange := []int{math.MinInt, -1 << 32, -1, 0, 1, 15, 16, 26, 63, 1 << 32, math.MaxInt}
	for op := -2; op < 70; op++ {
		strange = append(strange, op)
	}
	for _, op := range strange {
		for _, r := range []int{math.MinInt, -1, 0, 1, 15, 16, 1 << 32, math.MaxInt} {
			for _, imm := range []int32{math.MinInt32, leastImm - 1, -1, 0, 1, 12, mostImm + 1, math.MaxInt32} {
				Execute(m, api.Instr{Op: op, Rd: r, Imm: imm})
				Execute(m, api.Instr{Op: op, Ra: r, Imm: imm})
				Execute(m, api.Instr{Op: op, Rb: r, Imm: imm})
			}
		}
	}
	if !untouched(m) {
		t.Error("a call changed its argument")
	}
}
