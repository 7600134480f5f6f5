package trap

import (
	"math"
	"testing"

	"gaoler/api"
)

const greatest = math.MaxUint32

// The numbers of the CSRs that a trap concerns.
const (
	statusCsr = 0
	epc       = 1
	cause     = 2
	tval      = 3
	tvec      = 4
)

// combinations holds, for each combination of Mode (1), Ie (2), Pmode (4) and
// Pie (8), the combination after trap entry and after trap return, and what the
// two questions answer before.
var combinations = [16]struct {
	before, entered, returned uint32
	supervisor, enabled       bool
}{
	{0b0000, 0b0001, 0b0000, false, false},
	{0b0001, 0b0101, 0b0000, true, false},
	{0b0010, 0b1001, 0b0000, false, true},
	{0b0011, 0b1101, 0b0000, true, true},
	{0b0100, 0b0001, 0b0101, false, false},
	{0b0101, 0b0101, 0b0101, true, false},
	{0b0110, 0b1001, 0b0101, false, true},
	{0b0111, 0b1101, 0b0101, true, true},
	{0b1000, 0b0001, 0b1010, false, false},
	{0b1001, 0b0101, 0b1010, true, false},
	{0b1010, 0b1001, 0b1010, false, true},
	{0b1011, 0b1101, 0b1010, true, true},
	{0b1100, 0b0001, 0b1111, false, false},
	{0b1101, 0b0101, 0b1111, true, false},
	{0b1110, 0b1001, 0b1111, false, true},
	{0b1111, 0b1101, 0b1111, true, true},
}

// otherBits returns settings of the bits of Status that no trap changes: none,
// all, each alone, all but each, and two patterns.
func otherBits() []uint32 {
	out := []uint32{0, 0xfffffff0, 0x55555550, 0xaaaaaaa0}
	for i := 4; i < 32; i++ {
		out = append(out, 1<<i, 0xfffffff0-1<<i)
	}
	return out
}

// values holds what program counters and CSRs are set to: also numbers that are
// no address of a word.
var values = []uint32{0, 1, 2, 3, 4, 12, 99, 128, 0xffff, 0x10000, 1<<31 - 1, 1 << 31, greatest - 3, greatest - 1, greatest}

// causes holds causes other than 0 and what Cause holds of them.
var causes = []struct {
	cause int
	low   uint32
}{
	{api.Illegal, 1}, {api.Privileged, 2}, {api.Access, 3}, {api.Misaligned, 4}, {api.Called, 5}, {api.Timer, 6},
	{7, 7}, {8, 8}, {16, 16}, {255, 255}, {256, 256}, {1 << 16, 0x10000}, {0x12345678, 0x12345678},
	{1<<31 - 1, 0x7fffffff}, {1 << 31, 0x80000000}, {1<<32 - 1, 0xffffffff},
	{1 << 32, 0}, {1<<32 + 1, 1}, {1<<32 + 6, 6}, {2 << 32, 0}, {1 << 33, 0}, {1 << 48, 0}, {1 << 62, 0},
	{0x123456789abcdef0, 0x9abcdef0}, {math.MaxInt, 0xffffffff}, {math.MaxInt - 0xffffffff, 0},
	{-1, 0xffffffff}, {-2, 0xfffffffe}, {-5, 0xfffffffb}, {-6, 0xfffffffa}, {-256, 0xffffff00}, {-1 << 16, 0xffff0000},
	{-1 << 31, 0x80000000}, {-1<<31 - 1, 0x7fffffff}, {-1<<32 + 1, 1}, {-1 << 32, 0}, {-1<<32 - 1, 0xffffffff},
	{-1 << 40, 0}, {math.MinInt, 0}, {math.MinInt + 1, 1}, {math.MinInt + 6, 6},
}

// distinct returns a processor that holds another number at every place, with
// that status.
func distinct(status uint32) api.Core {
	c := api.Core{Pc: 0x1000f}
	for i := range c.Regs {
		c.Regs[i] = 0x20000 + uint32(i)
	}
	for n := range c.Csr {
		c.Csr[n] = 0x30001 + uint32(n)*0x111
	}
	c.Csr[statusCsr] = status
	return c
}

// uniform returns a processor that holds the same number everywhere, but for
// its status.
func uniform(v, status uint32) api.Core {
	c := api.Core{Pc: v}
	for i := range c.Regs {
		c.Regs[i] = v
	}
	for n := range c.Csr {
		c.Csr[n] = v
	}
	c.Csr[statusCsr] = status
	return c
}

// cores returns processors with that status.
func cores(status uint32) []api.Core {
	return []api.Core{distinct(status), uniform(0, status), uniform(greatest, status), {Pc: 12, Csr: [api.Csrs]uint32{statusCsr: status, tvec: 128}}}
}

// eachStatus calls f with every combination and every setting of the other
// bits.
func eachStatus(f func(combination int, others uint32)) {
	for combination := range combinations {
		for _, others := range otherBits() {
			f(combination, others)
		}
	}
}

// P9.1: every part of the processor after trap entry, at each combination.
func TestEnter(t *testing.T) {
	eachStatus(func(combination int, others uint32) {
		x := combinations[combination]
		for _, c := range cores(others + x.before) {
			before := c
			want := c
			want.Pc = before.Csr[tvec]
			want.Csr[epc], want.Csr[cause], want.Csr[tval] = before.Pc, 5, 0xdeadbeef
			want.Csr[statusCsr] = others + x.entered
			if got := Enter(c, api.Trap{Cause: api.Called, Tval: 0xdeadbeef}); got != want {
				t.Fatalf("status %#x: trap entry makes %x of %x, not %x", others+x.before, got, before, want)
			}
			if c != before {
				t.Fatalf("status %#x: trap entry changed its argument to %x", others+x.before, c)
			}
		}
	})
}

// P9.1: the processor after trap entry is written down here, not computed.
func TestEnterByHand(t *testing.T) {
	c := api.Core{
		Regs: [api.Regs]uint32{50, 51, 52, 53, 54, 55, 56, 57, 58, 59, 60, 61, 62, 63, 64, 65},
		Pc:   13,
		Csr:  [api.Csrs]uint32{0x106, 101, 102, 103, 107, 105, 106, 107, 108, 109, 110, 111},
	}
	want := api.Core{
		Regs: [api.Regs]uint32{50, 51, 52, 53, 54, 55, 56, 57, 58, 59, 60, 61, 62, 63, 64, 65},
		Pc:   107,
		Csr:  [api.Csrs]uint32{0x109, 13, 3, 77, 107, 105, 106, 107, 108, 109, 110, 111},
	}
	if got := Enter(c, api.Trap{Cause: api.Access, Tval: 77}); got != want {
		t.Errorf("trap entry gives %v, not %v", got, want)
	}
}

// P9.1: Cause holds the low 32 bits of the cause, also of one below 0 or above
// 32 bits; a cause other than 0 whose low 32 bits are 0 is a trap.
func TestEnterCauses(t *testing.T) {
	for combination, x := range combinations {
		for _, k := range causes {
			c := distinct(0x700 + x.before)
			want := c
			want.Pc = c.Csr[tvec]
			want.Csr[statusCsr], want.Csr[epc], want.Csr[cause], want.Csr[tval] = 0x700+x.entered, c.Pc, k.low, 9
			if got := Enter(c, api.Trap{Cause: k.cause, Tval: 9}); got != want {
				t.Fatalf("combination %d, cause %d: trap entry gives %x, not %x", combination, k.cause, got, want)
			}
		}
	}
}

// P9.1: the program counter, Tvec and the value are taken as they are, also
// where they are no address of a word.
func TestEnterValues(t *testing.T) {
	for _, pc := range values {
		for _, vector := range values {
			for _, v := range values {
				c := distinct(api.Ie)
				c.Pc, c.Csr[tvec] = pc, vector
				got := Enter(c, api.Trap{Cause: api.Misaligned, Tval: v})
				if got.Pc != vector || got.Csr[tvec] != vector || got.Csr[epc] != pc || got.Csr[tval] != v || got.Csr[cause] != 4 {
					t.Fatalf("trap entry at %#x with the vector %#x and the value %#x gives %x", pc, vector, v, got)
				}
			}
		}
	}
}

// P9.1: with the cause 0 nothing changes, whatever the value.
func TestEnterWithoutCause(t *testing.T) {
	eachStatus(func(combination int, others uint32) {
		status := others + combinations[combination].before
		for _, c := range cores(status) {
			for _, v := range values {
				if got := Enter(c, api.Trap{Tval: v}); got != c {
					t.Fatalf("status %#x, value %#x: no trap makes %x of %x", status, v, got, c)
				}
			}
		}
	})
}

// P9.1: every part of the processor after trap return, at each combination.
func TestReturn(t *testing.T) {
	eachStatus(func(combination int, others uint32) {
		x := combinations[combination]
		for _, c := range cores(others + x.before) {
			before := c
			want := c
			want.Pc, want.Csr[statusCsr] = before.Csr[epc], others+x.returned
			if got := Return(c); got != want {
				t.Fatalf("status %#x: trap return makes %x of %x, not %x", others+x.before, got, before, want)
			}
			if c != before {
				t.Fatalf("status %#x: trap return changed its argument to %x", others+x.before, c)
			}
		}
	})
}

// P9.1: Epc is taken as it is, and a second return changes nothing.
func TestReturnValues(t *testing.T) {
	for _, x := range combinations {
		for _, to := range values {
			c := distinct(x.before)
			c.Csr[epc] = to
			once := Return(c)
			if once.Pc != to || once.Csr[epc] != to {
				t.Fatalf("combination %#x: the return to %#x gives %x", x.before, to, once)
			}
			if twice := Return(once); twice != once {
				t.Fatalf("combination %#x: a second return makes %x of %x", x.before, twice, once)
			}
		}
	}
}

// P9.2: both questions at each combination, whatever the other bits of Status
// and the other parts of the processor hold.
func TestQuestions(t *testing.T) {
	eachStatus(func(combination int, others uint32) {
		x := combinations[combination]
		for _, c := range cores(others + x.before) {
			before := c
			if got := IsSupervisor(c); got != x.supervisor {
				t.Fatalf("IsSupervisor of %x = %t", c, got)
			}
			if got := InterruptsEnabled(c); got != x.enabled {
				t.Fatalf("InterruptsEnabled of %x = %t", c, got)
			}
			if c != before {
				t.Fatalf("a question changed %x to %x", before, c)
			}
		}
	})
}

// P9.2: after trap entry the processor is in supervisor mode with interrupts
// disabled.
func TestQuestionsAfterEnter(t *testing.T) {
	eachStatus(func(combination int, others uint32) {
		for _, k := range causes {
			got := Enter(distinct(others+combinations[combination].before), api.Trap{Cause: k.cause})
			if !IsSupervisor(got) || InterruptsEnabled(got) {
				t.Fatalf("combination %d, other bits %#x, cause %d: trap entry gives %x", combination, others, k.cause, got)
			}
		}
	})
}

// P9.3: a return after a trap restores the program counter, the mode and the
// interrupt enable bit.
func TestReturnAfterEnter(t *testing.T) {
	eachStatus(func(combination int, others uint32) {
		x := combinations[combination]
		for _, k := range causes {
			for _, c := range cores(others + x.before) {
				got := Return(Enter(c, api.Trap{Cause: k.cause, Tval: 4}))
				if got.Pc != c.Pc || IsSupervisor(got) != x.supervisor || InterruptsEnabled(got) != x.enabled {
					t.Fatalf("combination %d, cause %d: trap entry and return make %x of %x", combination, k.cause, got, c)
				}
				want := c
				want.Csr[epc], want.Csr[cause], want.Csr[tval] = c.Pc, k.low, 4
				want.Csr[statusCsr] = others + (x.before%4)*5
				if got != want {
					t.Fatalf("combination %d, cause %d: trap entry and return give %x, not %x", combination, k.cause, got, want)
				}
			}
		}
	})
}

// P9.3: the second of two traps is entered at Tvec in supervisor mode with
// interrupts disabled, so a return leads there.
func TestReturnAfterTwoTraps(t *testing.T) {
	eachStatus(func(combination int, others uint32) {
		for _, vector := range values {
			for _, k := range causes {
				c := distinct(others + combinations[combination].before)
				c.Csr[tvec] = vector
				got := Return(Enter(Enter(c, api.Trap{Cause: api.Called, Tval: 1}), api.Trap{Cause: k.cause, Tval: 2}))
				want := c
				want.Pc = vector
				want.Csr[epc], want.Csr[cause], want.Csr[tval] = vector, k.low, 2
				want.Csr[statusCsr] = others + 0b0101
				if got != want || !IsSupervisor(got) || InterruptsEnabled(got) {
					t.Fatalf("combination %d, causes %d and %d: the return gives %x, not %x", combination, api.Called, k.cause, got, want)
				}
			}
		}
	})
}

// P9.3: a handler that writes Epc and Status back, as they were after the first
// trap, returns to where the first trap came from.
func TestReturnAfterNestedTraps(t *testing.T) {
	for _, x := range combinations {
		c := distinct(x.before)
		first := Enter(c, api.Trap{Cause: api.Called})
		inner := Return(Enter(first, api.Trap{Cause: api.Access}))
		inner.Csr[epc], inner.Csr[statusCsr] = first.Csr[epc], first.Csr[statusCsr]
		got := Return(inner)
		if got.Pc != c.Pc || IsSupervisor(got) != x.supervisor || InterruptsEnabled(got) != x.enabled {
			t.Fatalf("combination %#x: two nested traps make %x of %x", x.before, got, c)
		}
	}
}

// The chapter's example.
func TestExample(t *testing.T) {
	entered := Enter(api.Core{Csr: [api.Csrs]uint32{api.Status: api.Ie}}, api.Trap{Cause: api.Timer})
	if got := entered.Csr[api.Status]; got != api.Mode|api.Pie {
		t.Errorf("a trap in user mode with interrupts enabled leaves Status = %#x", got)
	}
	if got := Return(entered).Csr[api.Status]; got != api.Ie|api.Pie {
		t.Errorf("the return then gives %#x", got)
	}
}
