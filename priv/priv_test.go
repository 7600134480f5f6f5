package priv

import (
	"bytes"
	"math"
	"testing"

	"gaoler/api"
)

const (
	greatest = math.MaxUint32
	modulus  = 1 << 32
	half     = 1 << 31
	spare    = 16 // capacity behind the slices of a machine
)

// The chapters' numbers, so that the constants are not held against themselves.
const (
	statusCsr = 0
	epcCsr    = 1
	timeCsr   = 7
	timehCsr  = 8
)

// masks holds the write mask of each CSR, as chapter 4 has it.
var masks = [api.Csrs]uint32{
	0xe, 0xfffffffc, greatest, greatest, 0xfffffffc, 0xfffffffc, greatest, 0, 0, greatest, greatest, greatest,
}

// pcs holds program counters around 0, 2^31 and 2^32.
var pcs = []uint32{
	0, 1, 2, 3, 4, 100, half - 5, half - 4, half - 3, half - 1, half, half + 4,
	greatest - 7, greatest - 4, greatest - 3, greatest - 2, greatest - 1, greatest,
}

// statuses holds user and supervisor mode with all else in Status set, clear
// and mixed.
var statuses = []uint32{0, 1, 2, 4, 8, 9, 0xe, 0xf, 0x55555555, 0xaaaaaaaa, greatest - 1, greatest}

// times holds times around 0, 2^32 and 2^64 with their halves.
var times = []struct {
	time      uint64
	low, high uint32
}{
	{0, 0, 0}, {1, 1, 0}, {2, 2, 0}, {0x7fffffff, 0x7fffffff, 0}, {0x80000000, 0x80000000, 0},
	{0xfffffffe, 0xfffffffe, 0}, {0xffffffff, greatest, 0}, {0x100000000, 0, 1}, {0x100000001, 1, 1}, {0x300000004, 4, 3},
	{0x7fffffffffffffff, greatest, 0x7fffffff}, {0x8000000000000000, 0, half}, {0x0123456789abcdef, 0x89abcdef, 0x01234567},
	{0xfffffffeffffffff, greatest, greatest - 1}, {0xffffffff00000000, 0, greatest},
	{0xfffffffffffffffe, greatest - 1, greatest}, {math.MaxUint64, greatest, greatest},
}

// words holds values of registers and CSRs whose bits lie inside and outside
// of the write masks, and which have low bytes of all kinds.
var words = []uint32{
	0, 1, 2, 3, 4, 8, 0xd, 0xe, 0xf, 0x10, 0x7f, 0x80, 0xff, 0x100, 0x141, 0xfff, 0x1000, 0xfffffff0, 0xfffffff1, 0xfffffffc,
	half - 1, half, half + 3, 0x55555555, 0xaaaaaaaa, 0xdeadbeef, 0x89abcdef, greatest - 2, greatest - 1, greatest,
}

// distinct returns bytes of which no two of the first 250 are equal.
func distinct(size int) []byte {
	b := make([]byte, size)
	for i := range b {
		b[i] = byte(i%250)*7 + 0x83
	}
	return b
}

// machine returns a machine with that Status. All else in it is filled with
// numbers, also at index 0 of the registers and where Time and Timeh are never
// read, and its slices have spare capacity.
func machine(status uint32) api.Machine {
	m := api.Machine{Mem: distinct(12 + spare)[:12], Out: distinct(3 + spare)[:3], Time: 0x123456789abcdef0}
	m.Core.Pc = 0x5a5a5a5c
	for i := range m.Core.Regs {
		m.Core.Regs[i] = 0x01010101*uint32(i) + 0x80706051
	}
	for n := range m.Core.Csr {
		m.Core.Csr[n] = 0x30001001 + 0x01100111*uint32(n)
	}
	m.Core.Csr[statusCsr] = status
	return m
}

// eachMachine calls f with machines in both modes, halted and not, at every
// program counter.
func eachMachine(f func(m api.Machine)) {
	for _, status := range statuses {
		for _, halted := range []bool{false, true} {
			for _, pc := range pcs {
				m := machine(status)
				m.Halted, m.Core.Pc = halted, pc
				f(m)
			}
		}
	}
}

// eachInstr calls f with every valid privileged instruction.
func eachInstr(f func(i api.Instr)) {
	f(api.Instr{Op: api.Eret})
	f(api.Instr{Op: api.Halt})
	for r := range api.Regs {
		f(api.Instr{Op: api.Out, Ra: r})
		for n := range int32(api.Csrs) {
			f(api.Instr{Op: api.Csrr, Rd: r, Imm: n})
			f(api.Instr{Op: api.Csrw, Ra: r, Imm: n})
		}
	}
}

// same reports whether two machines are equal in every part.
func same(m, p api.Machine) bool {
	return m.Core == p.Core && bytes.Equal(m.Mem, p.Mem) && m.Time == p.Time && bytes.Equal(m.Out, p.Out) && m.Halted == p.Halted
}

// untouched reports whether the slices of a machine hold what machine put
// there, also in their spare capacity.
func untouched(m api.Machine) bool {
	return bytes.Equal(m.Mem[:cap(m.Mem)], distinct(cap(m.Mem))) && bytes.Equal(m.Out[:cap(m.Out)], distinct(cap(m.Out)))
}

// valueOf is the value of a register.
func valueOf(m api.Machine, r int) uint32 {
	if r == 0 {
		return 0
	}
	return m.Core.Regs[r]
}

// readAs is what a CSR reads as.
func readAs(m api.Machine, n int32) uint32 {
	switch n {
	case timeCsr:
		return uint32(m.Time % modulus)
	case timehCsr:
		return uint32(m.Time / modulus)
	}
	return m.Core.Csr[n]
}

// merged takes each bit that the mask has from v, and each other one from old.
func merged(old, v, mask uint32) uint32 {
	sum, weight := uint64(0), uint64(1)
	for range 32 {
		from := old
		if uint64(mask)/weight%2 == 1 {
			from = v
		}
		sum += uint64(from) / weight % 2 * weight
		weight *= 2
	}
	return uint32(sum)
}

// returned is Status after trap return: the lowest two bits become the two
// above them.
func returned(status uint32) uint32 { return status - status%4 + status/4%4 }

// after is what Execute returns, put together from the chapters' words.
func after(m api.Machine, i api.Instr) api.Machine {
	next := uint32((uint64(m.Core.Pc) + 4) % modulus)
	x := valueOf(m, i.Ra)
	switch i.Op {
	case api.Csrr:
		if i.Rd != 0 {
			m.Core.Regs[i.Rd] = readAs(m, i.Imm)
		}
	case api.Csrw:
		m.Core.Csr[i.Imm] = merged(m.Core.Csr[i.Imm], x, masks[i.Imm])
	case api.Out:
		m.Out = append(append([]byte{}, m.Out...), byte(x%256))
	case api.Halt:
		m.Halted = true
	case api.Eret:
		next = m.Core.Csr[epcCsr]
		m.Core.Csr[statusCsr] = returned(m.Core.Csr[statusCsr])
	}
	m.Core.Pc = next
	return m
}

// check holds Execute against after.
func check(t *testing.T, m api.Machine, i api.Instr) {
	t.Helper()
	if got, want := Execute(m, i), after(m, i); !same(got, want) {
		t.Fatalf("%v in %v\ngives %v\nwant  %v", i, m, got, want)
	}
}

// P12.1: every instruction in both modes, halted and not, at every program
// counter.
func TestEverywhere(t *testing.T) {
	eachMachine(func(m api.Machine) {
		eachInstr(func(i api.Instr) { check(t, m, i) })
	})
}

// byHand holds instructions with what they give in the machine of TestByHand:
// the register of that number, the CSR of that number, the program counter and
// the console output.
var byHand = []struct {
	i      api.Instr
	reg    int
	regIs  uint32
	csr    int
	csrIs  uint32
	pc     uint32
	out    string
	halted bool
}{
	{api.Instr{Op: api.Csrr, Rd: 4, Imm: 0}, 4, 0xd, 0, 0xd, 44, "a", false},
	{api.Instr{Op: api.Csrr, Rd: 4, Imm: 1}, 4, 14, 1, 14, 44, "a", false},
	{api.Instr{Op: api.Csrr, Rd: 4, Imm: 2}, 4, 7, 2, 7, 44, "a", false},
	{api.Instr{Op: api.Csrr, Rd: 4, Imm: 3}, 4, greatest, 3, greatest, 44, "a", false},
	{api.Instr{Op: api.Csrr, Rd: 4, Imm: 4}, 4, 128, 4, 128, 44, "a", false},
	{api.Instr{Op: api.Csrr, Rd: 4, Imm: 5}, 4, 8, 5, 8, 44, "a", false},
	{api.Instr{Op: api.Csrr, Rd: 4, Imm: 6}, 4, 17, 6, 17, 44, "a", false},
	{api.Instr{Op: api.Csrr, Rd: 4, Imm: 7}, 4, 6, 7, 70, 44, "a", false},
	{api.Instr{Op: api.Csrr, Rd: 4, Imm: 8}, 4, 5, 8, 80, 44, "a", false},
	{api.Instr{Op: api.Csrr, Rd: 4, Imm: 9}, 4, 90, 9, 90, 44, "a", false},
	{api.Instr{Op: api.Csrr, Rd: 4, Imm: 10}, 4, 100, 10, 100, 44, "a", false},
	{api.Instr{Op: api.Csrr, Rd: 15, Imm: 11}, 15, 99, 11, 99, 44, "a", false},
	{api.Instr{Op: api.Csrr, Rd: 1, Imm: 11}, 1, 99, 11, 99, 44, "a", false},
	{api.Instr{Op: api.Csrr, Rd: 0, Imm: 11}, 0, 77, 11, 99, 44, "a", false},
	{api.Instr{Op: api.Csrw, Ra: 3, Imm: 0}, 3, 0xffffff62, 0, 3, 44, "a", false},
	{api.Instr{Op: api.Csrw, Ra: 3, Imm: 1}, 3, 0xffffff62, 1, 0xffffff62, 44, "a", false},
	{api.Instr{Op: api.Csrw, Ra: 3, Imm: 2}, 3, 0xffffff62, 2, 0xffffff62, 44, "a", false},
	{api.Instr{Op: api.Csrw, Ra: 5, Imm: 4}, 5, 0x141, 4, 0x140, 44, "a", false},
	{api.Instr{Op: api.Csrw, Ra: 5, Imm: 5}, 5, 0x141, 5, 0x140, 44, "a", false},
	{api.Instr{Op: api.Csrw, Ra: 5, Imm: 6}, 5, 0x141, 6, 0x141, 44, "a", false},
	{api.Instr{Op: api.Csrw, Ra: 3, Imm: 7}, 3, 0xffffff62, 7, 70, 44, "a", false},
	{api.Instr{Op: api.Csrw, Ra: 3, Imm: 8}, 3, 0xffffff62, 8, 80, 44, "a", false},
	{api.Instr{Op: api.Csrw, Ra: 3, Imm: 9}, 3, 0xffffff62, 9, 0xffffff62, 44, "a", false},
	{api.Instr{Op: api.Csrw, Ra: 0, Imm: 0}, 0, 77, 0, 1, 44, "a", false},
	{api.Instr{Op: api.Csrw, Ra: 0, Imm: 1}, 0, 77, 1, 2, 44, "a", false},
	{api.Instr{Op: api.Csrw, Ra: 0, Imm: 11}, 0, 77, 11, 0, 44, "a", false},
	{api.Instr{Op: api.Out, Ra: 3}, 3, 0xffffff62, 0, 0xd, 44, "ab", false},
	{api.Instr{Op: api.Out, Ra: 5}, 5, 0x141, 0, 0xd, 44, "aA", false},
	{api.Instr{Op: api.Out, Ra: 0}, 0, 77, 0, 0xd, 44, "a\x00", false},
	{api.Instr{Op: api.Halt}, 3, 0xffffff62, 0, 0xd, 44, "a", true},
	{api.Instr{Op: api.Eret}, 3, 0xffffff62, 0, 0xf, 14, "a", false},
}

// P12.1: named instructions of each opcode.
func TestByHand(t *testing.T) {
	for _, x := range byHand {
		m := api.Machine{Mem: []byte{1, 2}, Time: 0x0000000500000006, Out: []byte("a")}
		m.Core.Pc = 40
		m.Core.Regs = [api.Regs]uint32{0: 77, 1: 11, 3: 0xffffff62, 5: 0x141, 15: 1515}
		m.Core.Csr = [api.Csrs]uint32{0xd, 14, 7, greatest, 128, 8, 17, 70, 80, 90, 100, 99}
		want := m
		want.Core.Regs[x.reg], want.Core.Csr[x.csr] = x.regIs, x.csrIs
		want.Core.Pc, want.Out, want.Halted = x.pc, []byte(x.out), x.halted
		if got := Execute(m, x.i); !same(got, want) {
			t.Errorf("%v gives %v\nwant %v", x.i, got, want)
		}
	}
}

// P12.1: Time and Timeh read as the halves of the machine's time, into each
// register, whatever the CSRs hold there.
func TestCsrrOfTime(t *testing.T) {
	for _, status := range statuses {
		for _, x := range times {
			m := machine(status)
			m.Time = x.time
			for rd := 1; rd < api.Regs; rd++ {
				low := Execute(m, api.Instr{Op: api.Csrr, Rd: rd, Imm: api.Time})
				high := Execute(m, api.Instr{Op: api.Csrr, Rd: rd, Imm: api.Timeh})
				if low.Core.Regs[rd] != x.low || high.Core.Regs[rd] != x.high {
					t.Fatalf("the time %#x reads as %#x and %#x", x.time, low.Core.Regs[rd], high.Core.Regs[rd])
				}
			}
		}
	}
}

// P12.1: Csrr of every CSR into every register at every time.
func TestCsrr(t *testing.T) {
	for _, x := range times {
		for _, w := range words {
			for n := range int32(api.Csrs) {
				m := machine(1)
				m.Time, m.Core.Csr[n] = x.time, w
				for rd := range api.Regs {
					check(t, m, api.Instr{Op: api.Csrr, Rd: rd, Imm: n})
				}
			}
		}
	}
}

// P12.1: Csrr into register 0 changes nothing but the program counter.
func TestCsrrIntoZero(t *testing.T) {
	eachMachine(func(m api.Machine) {
		want := m
		want.Core.Pc += 4
		for n := range int32(api.Csrs) {
			if got := Execute(m, api.Instr{Op: api.Csrr, Imm: n}); !same(got, want) {
				t.Fatalf("Csrr of %d into register 0 makes %v of %v", n, got, m)
			}
		}
	})
}

// P12.1: Csrw of every CSR from every register, with all kinds of old and new
// bits.
func TestCsrw(t *testing.T) {
	for _, old := range words {
		for _, v := range words {
			for n := range int32(api.Csrs) {
				m := machine(1)
				m.Core.Csr[n] = old
				for ra := range api.Regs {
					p := m
					p.Core.Regs[ra] = v
					check(t, p, api.Instr{Op: api.Csrw, Ra: ra, Imm: n})
				}
			}
		}
	}
}

// P12.1: Csrw from register 0 clears what the mask has, whatever is stored at
// index 0 of the registers.
func TestCsrwFromZero(t *testing.T) {
	for n, left := range [api.Csrs]uint32{0xfffffff1, 3, 0, 0, 3, 3, 0, greatest, greatest, 0, 0, 0} {
		for _, stored := range words {
			m := machine(1)
			m.Core.Regs[0], m.Core.Csr[n] = stored, greatest
			want := m
			want.Core.Csr[n] = left
			want.Core.Pc += 4
			if got := Execute(m, api.Instr{Op: api.Csrw, Imm: int32(n)}); !same(got, want) {
				t.Errorf("Csrw of %d from register 0 gives %v\nwant %v", n, got, want)
			}
		}
	}
}

// P12.1: Csrw of Time and Timeh changes nothing but the program counter, and
// the time is read afterwards as before.
func TestCsrwOfTime(t *testing.T) {
	for _, x := range times {
		for _, v := range words {
			for _, n := range []int32{api.Time, api.Timeh} {
				m := machine(1)
				m.Time, m.Core.Regs[9] = x.time, v
				want := m
				want.Core.Pc += 4
				got := Execute(m, api.Instr{Op: api.Csrw, Ra: 9, Imm: n})
				if !same(got, want) {
					t.Fatalf("Csrw of %d makes %v of %v", n, got, m)
				}
				low := Execute(got, api.Instr{Op: api.Csrr, Rd: 2, Imm: api.Time})
				high := Execute(got, api.Instr{Op: api.Csrr, Rd: 2, Imm: api.Timeh})
				if low.Core.Regs[2] != x.low || high.Core.Regs[2] != x.high {
					t.Fatalf("after Csrw of %d the time %#x reads as %#x and %#x", n, x.time, low.Core.Regs[2], high.Core.Regs[2])
				}
			}
		}
	}
}

// outputs returns console outputs that are empty and not, with and without
// spare capacity; all hold what distinct gives.
func outputs() [][]byte {
	return [][]byte{nil, {}, distinct(spare)[:0], distinct(1)[:0], distinct(1), distinct(1 + spare)[:1], distinct(2)[:1], distinct(100), distinct(100 + spare)[:100]}
}

// P12.1: Out of each byte, with all kinds of bits above it, onto all kinds of
// console outputs.
func TestOut(t *testing.T) {
	for _, out := range outputs() {
		for b := range uint32(256) {
			for _, above := range []uint32{0, 0x100, 0x4100, half, 0x55aa5500, greatest - 255} {
				m := machine(above % 2)
				m.Out, m.Core.Regs[7] = out, above+b
				got := Execute(m, api.Instr{Op: api.Out, Ra: 7})
				if len(got.Out) != len(out)+1 || !bytes.Equal(got.Out[:len(out)], out) || got.Out[len(out)] != byte(b) {
					t.Fatalf("Out of %#x onto %x gives %x", above+b, out, got.Out)
				}
				check(t, m, api.Instr{Op: api.Out, Ra: 7})
			}
		}
	}
}

// P12.1: Out of every register; register 0 gives the byte 0, whatever is stored
// at its index.
func TestOutOfEveryRegister(t *testing.T) {
	m := machine(1)
	for ra := range api.Regs {
		want := byte(m.Core.Regs[ra])
		if ra == 0 {
			want = 0
		}
		got := Execute(m, api.Instr{Op: api.Out, Ra: ra})
		if !bytes.Equal(got.Out, append(distinct(3), want)) {
			t.Errorf("Out of register %d gives %x, want the byte %#x", ra, got.Out, want)
		}
	}
}

// P12.1: outputs follow one another.
func TestText(t *testing.T) {
	m := api.Machine{}
	for _, b := range []byte("VR32\n\x00\xff") {
		m.Core.Regs[1] = 0xabcdef00 + uint32(b)
		m = Execute(m, api.Instr{Op: api.Out, Ra: 1})
	}
	if string(m.Out) != "VR32\n\x00\xff" || m.Core.Pc != 28 {
		t.Errorf("the output is %q at %d", m.Out, m.Core.Pc)
	}
}

// P12.1: Halt sets Halted, also where it is set, and no other instruction
// changes it.
func TestHalt(t *testing.T) {
	eachMachine(func(m api.Machine) {
		want := m
		want.Halted = true
		want.Core.Pc += 4
		if got := Execute(m, api.Instr{Op: api.Halt}); !same(got, want) {
			t.Fatalf("Halt makes %v of %v", got, m)
		}
		eachInstr(func(i api.Instr) {
			if i.Op != api.Halt && Execute(m, i).Halted != m.Halted {
				t.Fatalf("%v changes Halted from %v", i, m.Halted)
			}
		})
	})
}

// returns holds, for each combination of Mode (1), Ie (2), Pmode (4) and Pie
// (8), the combination after trap return.
var returns = [16]uint32{
	0b0000, 0b0000, 0b0000, 0b0000, 0b0101, 0b0101, 0b0101, 0b0101,
	0b1010, 0b1010, 0b1010, 0b1010, 0b1111, 0b1111, 0b1111, 0b1111,
}

// P12.1: Eret leads to Epc with the mode and the interrupt enable bit that were
// saved, and changes no other word.
func TestEret(t *testing.T) {
	for before, want := range returns {
		for _, others := range []uint32{0, 0x10, half, 0x55555550, 0xaaaaaaa0, 0xfffffff0} {
			for _, epc := range append(pcs, words...) {
				for _, halted := range []bool{false, true} {
					m := machine(others + uint32(before))
					m.Core.Csr[epcCsr], m.Halted = epc, halted
					p := m
					p.Core.Pc, p.Core.Csr[statusCsr] = epc, others+want
					if got := Execute(m, api.Instr{Op: api.Eret}); !same(got, p) {
						t.Fatalf("Eret in %v\ngives %v\nwant  %v", m, got, p)
					}
				}
			}
		}
	}
}

// P12.1: after Csrr, Csrw, Out and Halt the program counter is 4 further,
// modulo 2^32; after Eret it is Epc.
func TestProgramCounter(t *testing.T) {
	for _, x := range []struct{ pc, want uint32 }{
		{0, 4}, {1, 5}, {4, 8}, {100, 104}, {half - 4, half}, {half - 1, half + 3}, {half, half + 4},
		{greatest - 7, greatest - 3}, {greatest - 4, greatest}, {greatest - 3, 0}, {greatest - 2, 1}, {greatest, 3},
	} {
		for _, status := range statuses {
			m := machine(status)
			m.Core.Pc, m.Core.Csr[epcCsr] = x.pc, 0x1234
			eachInstr(func(i api.Instr) {
				want := x.want
				if i.Op == api.Eret {
					want = 0x1234
				}
				if got := Execute(m, i).Core.Pc; got != want {
					t.Fatalf("%v at %#x leads to %#x, want %#x", i, x.pc, got, want)
				}
			})
		}
	}
}

// P12.1: no instruction takes time.
func TestTimeStands(t *testing.T) {
	for _, x := range times {
		for _, status := range statuses {
			m := machine(status)
			m.Time = x.time
			eachInstr(func(i api.Instr) {
				if got := Execute(m, i).Time; got != x.time {
					t.Fatalf("%v changes the time from %#x to %#x", i, x.time, got)
				}
			})
		}
	}
}

// P12.1: ReadsTime asks for the opcode Csrr and the CSRs Time and Timeh, also
// of instructions that are not valid.
func TestReadsTime(t *testing.T) {
	ops := []int{math.MinInt, -1 << 32, 1 << 32, 1<<32 + api.Csrr, api.Csrr - 1<<32, api.Csrr + 64, api.Csrr + 256, math.MaxInt}
	for op := -30; op < 70; op++ {
		ops = append(ops, op)
	}
	imms := []int32{math.MinInt32, -131072, -256, -8, -7, -1, 7 + 16, 8 + 16, 7 + 256, 8 + 256, 7 + 1<<18, 8 + 1<<18, 131071, math.MaxInt32}
	for imm := range int32(20) {
		imms = append(imms, imm)
	}
	for _, op := range ops {
		for _, imm := range imms {
			want := op == 21 && (imm == 7 || imm == 8)
			for _, r := range []int{math.MinInt, -1, 0, 1, 7, 8, 15, 16, math.MaxInt} {
				for _, i := range []api.Instr{{Op: op, Imm: imm, Rd: r}, {Op: op, Imm: imm, Ra: r}, {Op: op, Imm: imm, Rb: r}} {
					if ReadsTime(i) != want {
						t.Fatalf("ReadsTime(%v) = %v", i, !want)
					}
				}
			}
		}
	}
}

// P12.1: where ReadsTime says no, the answer is the same at every time, but for
// the time itself; where it says yes, it is not.
func TestOnlySomeReadTime(t *testing.T) {
	eachInstr(func(i api.Instr) {
		early, late := machine(1), machine(1)
		late.Time = ^early.Time
		p, q := Execute(early, i), Execute(late, i)
		if q.Time = p.Time; same(p, q) != (!ReadsTime(i) || i.Rd == 0) {
			t.Errorf("ReadsTime(%v) = %v, but at two times there are %v and %v", i, ReadsTime(i), p, q)
		}
	})
}

// P12.2: the memory is what it was, and the console output begins with what it
// was and grows by one byte with Out alone.
func TestMemoryAndOutput(t *testing.T) {
	eachMachine(func(m api.Machine) {
		for _, memory := range [][]byte{nil, distinct(5), distinct(5 + spare)[:5]} {
			m.Mem = memory
			eachInstr(func(i api.Instr) {
				got := Execute(m, i)
				if !bytes.Equal(got.Mem, distinct(len(memory))) {
					t.Fatalf("%v changes the memory to %x", i, got.Mem)
				}
				grown := 0
				if i.Op == api.Out {
					grown = 1
				}
				if !bytes.HasPrefix(got.Out, distinct(3)) || len(got.Out) != 3+grown {
					t.Fatalf("%v changes the console output to %x", i, got.Out)
				}
			})
		}
	})
}

// P12.2: what each kind of instruction leaves alone: Csrr the CSRs and all
// other registers, Csrw the registers and all other CSRs, Out and Halt both,
// Eret the registers and all CSRs but Status.
func TestOthersAreKept(t *testing.T) {
	eachMachine(func(m api.Machine) {
		eachInstr(func(i api.Instr) {
			got := Execute(m, i)
			switch i.Op {
			case api.Csrr:
				got.Core.Regs[i.Rd] = m.Core.Regs[i.Rd]
			case api.Csrw:
				got.Core.Csr[i.Imm] = m.Core.Csr[i.Imm]
			case api.Eret:
				got.Core.Csr[statusCsr] = m.Core.Csr[statusCsr]
			}
			if got.Core.Regs != m.Core.Regs || got.Core.Csr != m.Core.Csr {
				t.Fatalf("%v in %v changes other words: %v", i, m, got)
			}
		})
	})
}

// eachArgument calls f with every instruction and machines whose slices are
// empty and not, with and without spare capacity.
func eachArgument(f func(m api.Machine, i api.Instr)) {
	for _, status := range []uint32{0, 1} {
		for _, out := range outputs() {
			for _, memory := range [][]byte{nil, distinct(spare)[:0], distinct(5), distinct(5 + spare)[:5]} {
				m := machine(status)
				m.Mem, m.Out = memory, out
				eachInstr(func(i api.Instr) { f(m, i) })
			}
		}
	}
}

// P12.3: no call changes its argument, nor what lies behind the memory and the
// console output in their arrays.
func TestArgumentsAreLeftAlone(t *testing.T) {
	eachArgument(func(m api.Machine, i api.Instr) {
		before := m
		if Execute(m, i); !same(m, before) || !untouched(m) {
			t.Fatalf("%v changed its argument to %v", i, m)
		}
	})
}

// P12.3: what is appended to a result is not seen in the argument, nor behind
// its slices.
func TestAppendingToResults(t *testing.T) {
	eachArgument(func(m api.Machine, i api.Instr) {
		p := Execute(m, i)
		p.Out = append(p.Out, 1)
		p.Mem = append(p.Mem, 2)
		if !untouched(m) {
			t.Fatalf("appending to the result of %v changed the argument", i)
		}
	})
}

// P12.3: a console output that Out returned is a new one: what is written to
// it, also behind its end, is not seen in the argument.
func TestOverwritingResults(t *testing.T) {
	eachArgument(func(m api.Machine, i api.Instr) {
		if i.Op != api.Out {
			return
		}
		out := Execute(m, i).Out
		all := out[:cap(out)]
		for at := range all {
			all[at] ^= 0xff
		}
		if !untouched(m) {
			t.Fatalf("the console output after %v shares bytes with the argument's", i)
		}
	})
}

// P12.3: results of the same argument don't write over one another, nor does
// one see a change of the argument's bytes after Out.
func TestResultsOfOneArgument(t *testing.T) {
	for _, out := range outputs() {
		m := machine(1)
		m.Out, m.Core.Regs[1], m.Core.Regs[2] = out, 'x', 'y'
		x := Execute(m, api.Instr{Op: api.Out, Ra: 1})
		y := Execute(m, api.Instr{Op: api.Out, Ra: 2})
		xx := Execute(x, api.Instr{Op: api.Out, Ra: 1})
		xy := Execute(x, api.Instr{Op: api.Out, Ra: 2})
		begin := string(distinct(len(out)))
		for at := range out {
			out[at] ^= 0xff
		}
		if string(x.Out) != begin+"x" || string(y.Out) != begin+"y" || string(xx.Out) != begin+"xx" || string(xy.Out) != begin+"xy" {
			t.Errorf("outputs onto %q became %q, %q, %q and %q", begin, x.Out, y.Out, xx.Out, xy.Out)
		}
	}
}

// The chapter's example.
func TestExample(t *testing.T) {
	m := api.Machine{}
	m.Core.Regs[1] = 0x141
	if got := Execute(m, api.Instr{Op: api.Out, Ra: 1}); !bytes.Equal(got.Out, []byte{0x41}) {
		t.Errorf("Out r1 gives %x", got.Out)
	}
}

// P1: instructions that the chapter leaves open still get an answer, and leave
// the argument alone.
func TestOpenArgumentsEnd(t *testing.T) {
	m := machine(1)
	before := m
	ops := []int{math.MinInt, -1 << 32, -1, 1 << 32, math.MaxInt}
	for op := range 70 {
		ops = append(ops, op)
	}
	for _, op := range ops {
		for _, r := range []int{math.MinInt, -1, 0, 1, 15, 16, 1 << 32, math.MaxInt} {
			for _, imm := range []int32{math.MinInt32, -131072, -1, 0, 1, 11, 12, 131071, math.MaxInt32} {
				Execute(m, api.Instr{Op: op, Rd: r, Imm: imm})
				Execute(m, api.Instr{Op: op, Ra: r, Imm: imm})
				Execute(m, api.Instr{Op: op, Rb: r, Imm: imm})
			}
		}
	}
	if !untouched(m) || !same(m, before) {
		t.Error("a call changed its argument")
	}
}
