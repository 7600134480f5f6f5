package fetch

import (
	"bytes"
	"math"
	"testing"

	"gaoler/api"
)

const (
	greatest = math.MaxUint32
	half     = 1 << 31 // the greatest size that a memory may have
	spare    = 16      // capacity behind the slices of a machine
)

// The numbers of the causes that an access may have.
const (
	access     = 3
	misalign   = 4
	supervisor = 1 // Mode, in Status
	enable     = 2 // Ie, in Status
)

// cells holds the numbers of bytes that a cell may have.
var cells = []int{1, 4}

// words holds values whose four bytes differ, and ones at the edges of bytes.
var words = []uint32{0, 1, 0xff, 0x100, 0xffff, 0x10000, 0x1000000, 0x80000000, 0x01020304, 0xaabbccdd, 0xffffff00, greatest}

// userStatuses and supervisorStatuses hold values of Status that differ in
// other bits than Mode.
var (
	userStatuses       = []uint32{0b0000, 0b0010, 0b0100, 0b1000, 0b1110, greatest - 1}
	supervisorStatuses = []uint32{0b0001, 0b0011, 0b0101, 0b1001, 0b1111, greatest}
)

// distinct returns bytes of which no two of the first 250 are equal.
func distinct(size int) []byte {
	b := make([]byte, size)
	for i := range b {
		b[i] = byte(i%250)*7 + 0x83
	}
	return b
}

// machine returns a machine with that many bytes of memory and that Status,
// Base and Bound. All else in it is filled with numbers that no access may show
// or change, and its slices have spare capacity.
func machine(size int, status, base, bound uint32) api.Machine {
	m := api.Machine{Mem: distinct(size + spare)[:size], Out: distinct(3 + spare)[:3], Time: 0x123456789abc, Halted: status&4 != 0}
	m.Core.Pc = 0x5a5a5a5b
	for i := range m.Core.Regs {
		m.Core.Regs[i] = 0x1000*uint32(i) + 3
	}
	for n := range m.Core.Csr {
		m.Core.Csr[n] = 0xaaaa0001 + 0x100*uint32(n)
	}
	m.Core.Csr[api.Status], m.Core.Csr[api.Base], m.Core.Csr[api.Bound] = status, base, bound
	return m
}

// same reports whether two machines are equal in every part.
func same(m, p api.Machine) bool {
	return m.Core == p.Core && bytes.Equal(m.Mem, p.Mem) && m.Time == p.Time && bytes.Equal(m.Out, p.Out) && m.Halted == p.Halted
}

// untouched reports whether the slices of a machine hold what machine put
// there, also in their spare capacity.
func untouched(m api.Machine) bool {
	return bytes.Equal(m.Mem[:cap(m.Mem)], distinct(cap(m.Mem))) && bytes.Equal(m.Out[:cap(m.Out)], distinct(cap(m.Out)))
}

// resolved is what Resolve returns: it asks of each byte of the cell whether
// the bound and the memory have it, in numbers too wide to wrap around.
func resolved(m api.Machine, a uint32, n int) (uint32, api.Trap) {
	if n == 4 && a&3 != 0 {
		return 0, api.Trap{Cause: misalign, Tval: a}
	}
	base, bound := uint64(m.Core.Csr[api.Base]), uint64(m.Core.Csr[api.Bound])
	if m.Core.Csr[api.Status]&supervisor != 0 {
		base, bound = 0, greatest+1
	}
	for i := range uint64(n) {
		virtual := uint64(a) + i
		if virtual >= bound || base+virtual >= uint64(len(m.Mem)) {
			return 0, api.Trap{Cause: access, Tval: a}
		}
	}
	return uint32(base + uint64(a)), api.Trap{}
}

// valueOf is the value of a cell, made by multiplication rather than by shifts.
func valueOf(cell []byte) uint32 {
	sum, weight := uint64(0), uint64(1)
	for _, b := range cell {
		sum += uint64(b) * weight
		weight *= 256
	}
	return uint32(sum)
}

// stored is m with the low n bytes of v from the physical address on, found by
// division.
func stored(m api.Machine, physical uint32, n int, v uint32) api.Machine {
	m.Mem = append([]byte{}, m.Mem...)
	for i := range n {
		m.Mem[int(physical)+i] = byte(v % 256)
		v /= 256
	}
	return m
}

// around returns the addresses next to each of the places, modulo 2^32.
func around(places ...uint32) []uint32 {
	out := []uint32{}
	for _, at := range places {
		for i := range uint32(11) {
			out = append(out, at+i-5)
		}
	}
	return out
}

// addresses returns those around 0 and 2^32, Bound, the length of Mem, the last
// place that Base leaves inside it, where Base leads to 2^32, and 2^31.
func addresses(m api.Machine) []uint32 {
	base, bound, size := m.Core.Csr[api.Base], m.Core.Csr[api.Bound], uint32(len(m.Mem))
	return around(0, bound, size, size-base, -base, half)
}

// eachMachine calls f with machines in both modes, with memories from none to
// some words, with Base and Bound inside the memory, at its end, behind it and
// at the edges of the words.
func eachMachine(f func(m api.Machine)) {
	for k, size := range []int{0, 1, 3, 4, 5, 8, 15, 16, 33} {
		end := uint32(size)
		for i, base := range []uint32{0, 1, 2, 4, 8, end - 4, end - 1, end, end + 1, end + 4, half, greatest - 7, greatest - 3, greatest} {
			for j, bound := range []uint32{0, 1, 3, 4, 5, 8, end - base, end - 4, end - 1, end, end + 1, half, greatest - 3, greatest} {
				f(machine(size, userStatuses[(i+j+k)%len(userStatuses)], base, bound))
				f(machine(size, supervisorStatuses[(i+j+k)%len(supervisorStatuses)], base, bound))
			}
		}
	}
}

// eachAccess calls f with accesses of every machine of eachMachine.
func eachAccess(f func(m api.Machine, a uint32, n int)) {
	eachMachine(func(m api.Machine) {
		for _, a := range addresses(m) {
			for _, n := range cells {
				f(m, a, n)
			}
		}
	})
}

// accesses holds accesses to memories whose byte at each address is 0x10 plus
// the address, with what they give: the physical address and the value, or the
// cause.
var accesses = []struct {
	size                  int
	status, base, bound   uint32
	a                     uint32
	n, cause              int
	wantPlace, wantLoaded uint32
}{
	// supervisor mode: the whole memory, whatever Base and Bound hold
	{16, 1, 0, 0, 0, 4, 0, 0, 0x13121110}, {16, 1, 8, 4, 0, 1, 0, 0, 0x10}, {16, 1, 8, 4, 12, 4, 0, 12, 0x1f1e1d1c},
	{16, 1, greatest, greatest, 4, 4, 0, 4, 0x17161514}, {16, 1, 8, 4, 15, 1, 0, 15, 0x1f},
	{16, 1, 0, greatest, 16, 1, access, 0, 0}, {16, 1, 0, greatest, 16, 4, access, 0, 0}, {16, 1, 0, greatest, 20, 4, access, 0, 0},
	{16, 1, greatest - 3, greatest, 4, 1, 0, 4, 0x14}, {16, 1, 0, greatest, greatest, 1, access, 0, 0}, {16, 1, 0, greatest, greatest - 3, 4, access, 0, 0},
	{15, 1, 0, 0, 12, 4, access, 0, 0}, {15, 1, 0, 0, 14, 1, 0, 14, 0x1e}, {15, 1, 0, 0, 8, 4, 0, 8, 0x1b1a1918},
	{16, 1, 0, greatest, half, 4, access, 0, 0}, {16, 0xf, 8, 4, 5, 1, 0, 5, 0x15},
	// words that start at no address of a word, in the memory and behind it
	{16, 1, 0, 0, 1, 4, misalign, 0, 0}, {16, 1, 0, 0, 2, 4, misalign, 0, 0}, {16, 1, 0, 0, 3, 4, misalign, 0, 0},
	{16, 1, 0, 0, 13, 4, misalign, 0, 0}, {16, 1, 0, 0, 17, 4, misalign, 0, 0}, {16, 1, 0, 0, greatest, 4, misalign, 0, 0},
	{16, 1, 0, 0, half + 2, 4, misalign, 0, 0}, {16, 0, 0, 0, 1, 4, misalign, 0, 0}, {16, 0, 8, 8, 6, 4, misalign, 0, 0},
	{16, 0, 8, 8, 9, 4, misalign, 0, 0}, {16, 0, greatest, greatest, greatest - 1, 4, misalign, 0, 0},
	// user mode: Bound ends first
	{16, 0, 4, 8, 0, 4, 0, 4, 0x17161514}, {16, 0, 4, 8, 4, 4, 0, 8, 0x1b1a1918}, {16, 0, 4, 8, 8, 4, access, 0, 0},
	{16, 0, 4, 8, 7, 1, 0, 11, 0x1b}, {16, 0, 4, 8, 8, 1, access, 0, 0}, {16, 0, 4, 7, 4, 4, access, 0, 0}, {16, 0, 4, 7, 6, 1, 0, 10, 0x1a},
	{16, 0, 0, 0, 0, 1, access, 0, 0}, {16, 0, 0, 0, 0, 4, access, 0, 0}, {16, 0, 0, 1, 0, 1, 0, 0, 0x10}, {16, 0, 0, 3, 0, 4, access, 0, 0},
	// user mode: the memory ends first
	{16, 0, 8, 100, 4, 4, 0, 12, 0x1f1e1d1c}, {16, 0, 8, 100, 8, 4, access, 0, 0}, {16, 0, 8, 100, 7, 1, 0, 15, 0x1f}, {16, 0, 8, 100, 8, 1, access, 0, 0},
	{16, 0, 16, 100, 0, 1, access, 0, 0}, {16, 0, 15, 100, 0, 1, 0, 15, 0x1f}, {16, 0, 15, 100, 0, 4, access, 0, 0}, {16, 0, 20, 100, 0, 4, access, 0, 0},
	// the address has to be a multiple of 4, not its sum with Base
	{16, 0, 1, 100, 4, 4, 0, 5, 0x18171615}, {16, 0, 2, 100, 2, 4, misalign, 0, 0}, {16, 0, 3, 100, 0, 4, 0, 3, 0x16151413},
	// sums that pass 2^32
	{16, 0, greatest - 3, greatest, 4, 4, access, 0, 0}, {16, 0, greatest - 3, greatest, 8, 1, access, 0, 0}, {16, 0, greatest, greatest, 1, 1, access, 0, 0},
	{16, 0, 8, greatest, greatest - 7, 4, access, 0, 0}, {16, 0, half, greatest, half, 4, access, 0, 0}, {16, 0, 4, greatest, greatest, 1, access, 0, 0},
	{16, 0, 0, greatest, greatest - 3, 4, access, 0, 0}, {16, 0, 0, greatest, greatest, 1, access, 0, 0},
	// a memory of no bytes
	{0, 1, 0, 0, 0, 1, access, 0, 0}, {0, 1, 0, greatest, 0, 4, access, 0, 0}, {0, 0, 0, greatest, 0, 1, access, 0, 0},
	{0, 0, 0, greatest, 0, 4, access, 0, 0}, {0, 1, 0, 0, 3, 4, misalign, 0, 0}, {0, 0, greatest, 4, 1, 4, misalign, 0, 0}, {0, 0, greatest, 4, 1, 1, access, 0, 0},
}

// P10.1, P10.3: named accesses of each kind.
func TestAccessesByHand(t *testing.T) {
	for i, x := range accesses {
		m := machine(x.size, x.status, x.base, x.bound)
		for at := range m.Mem {
			m.Mem[at] = 0x10 + byte(at)
		}
		want := api.Trap{}
		if x.cause != 0 {
			want = api.Trap{Cause: x.cause, Tval: x.a}
		}
		if place, got := Resolve(m, x.a, x.n); place != x.wantPlace || got != want {
			t.Errorf("access %d: Resolve gives %#x, %v, want %#x, %v", i, place, got, x.wantPlace, want)
		}
		if v, got := Load(m, x.a, x.n); v != x.wantLoaded || got != want {
			t.Errorf("access %d: Load gives %#x, %v, want %#x, %v", i, v, got, x.wantLoaded, want)
		}
		after := m
		if x.cause == 0 {
			after = stored(m, x.wantPlace, x.n, 0xaabbccdd)
		}
		if p, got := Store(m, x.a, x.n, 0xaabbccdd); !same(p, after) || got != want {
			t.Errorf("access %d: Store gives %v, %v, want %v, %v", i, p, got, after, want)
		}
	}
}

// P10.1: the order of the bytes of a store, and that the bytes of the value
// above the cell stay out.
func TestStoreByHand(t *testing.T) {
	for _, x := range []struct {
		status uint32
		a      uint32
		n      int
		v      uint32
		want   []byte
	}{
		{1, 0, 4, 0x01020304, []byte{4, 3, 2, 1, 0x50, 0x60, 0x70, 0x80, 0x90}},
		{1, 4, 4, 0xaabbccdd, []byte{0x10, 0x20, 0x30, 0x40, 0xdd, 0xcc, 0xbb, 0xaa, 0x90}},
		{1, 8, 1, 0xaabbccdd, []byte{0x10, 0x20, 0x30, 0x40, 0x50, 0x60, 0x70, 0x80, 0xdd}},
		{1, 3, 1, 0xffffff00, []byte{0x10, 0x20, 0x30, 0, 0x50, 0x60, 0x70, 0x80, 0x90}},
		{0, 0, 4, 0xaabbccdd, []byte{0x10, 0x20, 0x30, 0x40, 0xdd, 0xcc, 0xbb, 0xaa, 0x90}},
		{0, 4, 1, 0xaabbccdd, []byte{0x10, 0x20, 0x30, 0x40, 0x50, 0x60, 0x70, 0x80, 0xdd}},
		{0, 1, 1, 0x100, []byte{0x10, 0x20, 0x30, 0x40, 0x50, 0, 0x70, 0x80, 0x90}},
	} {
		m := machine(9, x.status, 4, 5)
		m.Mem = []byte{0x10, 0x20, 0x30, 0x40, 0x50, 0x60, 0x70, 0x80, 0x90}
		if p, got := Store(m, x.a, x.n, x.v); !bytes.Equal(p.Mem, x.want) || got != (api.Trap{}) {
			t.Errorf("storing %#x at %d in mode %d gives %x, %v, want %x", x.v, x.a, x.status, p.Mem, got, x.want)
		}
	}
}

// P10.1: the physical address and the trap, around every edge.
func TestResolveEverywhere(t *testing.T) {
	eachAccess(func(m api.Machine, a uint32, n int) {
		want, wantTrap := resolved(m, a, n)
		if got, gotTrap := Resolve(m, a, n); got != want || gotTrap != wantTrap {
			t.Fatalf("Resolve(%d bytes of %x, %#x, %d) = %#x, %v, want %#x, %v", len(m.Mem), m.Core.Csr, a, n, got, gotTrap, want, wantTrap)
		}
	})
}

// P10.1: the value of the cell and the trap, around every edge.
func TestLoadEverywhere(t *testing.T) {
	eachAccess(func(m api.Machine, a uint32, n int) {
		physical, wantTrap := resolved(m, a, n)
		want := uint32(0)
		if wantTrap.Cause == 0 {
			want = valueOf(m.Mem[physical:][:n])
		}
		if got, gotTrap := Load(m, a, n); got != want || gotTrap != wantTrap {
			t.Fatalf("Load(%d bytes of %x, %#x, %d) = %#x, %v, want %#x, %v", len(m.Mem), m.Core.Csr, a, n, got, gotTrap, want, wantTrap)
		}
	})
}

// P10.1: a store changes exactly the bytes of its cell and nothing else of the
// machine; one that traps changes nothing.
func TestStoreEverywhere(t *testing.T) {
	eachAccess(func(m api.Machine, a uint32, n int) {
		physical, wantTrap := resolved(m, a, n)
		for _, v := range words {
			want := m
			if wantTrap.Cause == 0 {
				want = stored(m, physical, n, v)
			}
			if got, gotTrap := Store(m, a, n, v); !same(got, want) || gotTrap != wantTrap {
				t.Fatalf("Store(%d bytes of %x, %#x, %d, %#x) = %v, %v, want %v, %v", len(m.Mem), m.Core.Csr, a, n, v, got, gotTrap, want, wantTrap)
			}
		}
	})
}

// P10.1: the word at the program counter, and the traps of one that is
// misaligned or not accessible.
func TestFetchEverywhere(t *testing.T) {
	eachMachine(func(m api.Machine) {
		for _, pc := range addresses(m) {
			m.Core.Pc = pc
			physical, wantTrap := resolved(m, pc, 4)
			want := uint32(0)
			if wantTrap.Cause == 0 {
				want = valueOf(m.Mem[physical:][:4])
			}
			if got, gotTrap := Fetch(m); got != want || gotTrap != wantTrap {
				t.Fatalf("Fetch at %#x of %d bytes of %x = %#x, %v, want %#x, %v", pc, len(m.Mem), m.Core.Csr, got, gotTrap, want, wantTrap)
			}
		}
	})
}

// P10.1: named fetches.
func TestFetchByHand(t *testing.T) {
	for _, x := range []struct {
		status, pc, want uint32
		trap             api.Trap
	}{
		{1, 0, 0x13121110, api.Trap{}}, {1, 12, 0x1f1e1d1c, api.Trap{}}, {1, 16, 0, api.Trap{Cause: access, Tval: 16}},
		{1, 14, 0, api.Trap{Cause: misalign, Tval: 14}}, {1, greatest, 0, api.Trap{Cause: misalign, Tval: greatest}},
		{1, greatest - 3, 0, api.Trap{Cause: access, Tval: greatest - 3}},
		{0, 0, 0x17161514, api.Trap{}}, {0, 4, 0x1b1a1918, api.Trap{}}, {0, 8, 0, api.Trap{Cause: access, Tval: 8}},
		{0, 2, 0, api.Trap{Cause: misalign, Tval: 2}}, {0, 9, 0, api.Trap{Cause: misalign, Tval: 9}},
		{0, greatest - 3, 0, api.Trap{Cause: access, Tval: greatest - 3}},
	} {
		m := machine(16, x.status, 4, 8)
		for at := range m.Mem {
			m.Mem[at] = 0x10 + byte(at)
		}
		m.Core.Pc = x.pc
		if got, gotTrap := Fetch(m); got != x.want || gotTrap != x.trap {
			t.Errorf("Fetch at %#x in mode %d = %#x, %v, want %#x, %v", x.pc, x.status, got, gotTrap, x.want, x.trap)
		}
	}
}

// P10.1: a memory of 2^31 bytes, the greatest there may be. Only its last word
// is ever touched, so it takes hardly any room.
func TestGreatestMemory(t *testing.T) {
	m := machine(0, supervisor, 0, 0)
	m.Mem = make([]byte, half)
	copy(m.Mem[half-4:], []byte{4, 3, 2, 1})
	for _, x := range []struct {
		status, base, bound, a uint32
		n, cause               int
		place, loaded          uint32
	}{
		{1, 0, 0, half - 4, 4, 0, half - 4, 0x01020304}, {1, 0, 0, half - 1, 1, 0, half - 1, 1},
		{1, 0, greatest, half, 1, access, 0, 0}, {1, 0, greatest, half, 4, access, 0, 0}, {1, 0, 0, half - 2, 4, misalign, 0, 0},
		{0, half - 4, 4, 0, 4, 0, half - 4, 0x01020304}, {0, half - 4, 4, 4, 4, access, 0, 0}, {0, half - 4, greatest, 4, 1, access, 0, 0},
		{0, 8, greatest, half - 12, 4, 0, half - 4, 0x01020304}, {0, 8, greatest, half - 8, 4, access, 0, 0}, {0, half, greatest, half, 4, access, 0, 0},
	} {
		m.Core.Csr[api.Status], m.Core.Csr[api.Base], m.Core.Csr[api.Bound] = x.status, x.base, x.bound
		want := api.Trap{}
		if x.cause != 0 {
			want = api.Trap{Cause: x.cause, Tval: x.a}
		}
		if place, got := Resolve(m, x.a, x.n); place != x.place || got != want {
			t.Errorf("Resolve(%#x, %d) = %#x, %v, want %#x, %v", x.a, x.n, place, got, x.place, want)
		}
		if v, got := Load(m, x.a, x.n); v != x.loaded || got != want {
			t.Errorf("Load(%#x, %d) = %#x, %v, want %#x, %v", x.a, x.n, v, got, x.loaded, want)
		}
	}
}

// P10.1: a memory of the greatest size that a configuration has.
func TestGreatMemory(t *testing.T) {
	for _, status := range []uint32{0, supervisor} {
		m := machine(api.MaxMem, status, 0, api.MaxMem)
		for _, x := range []struct {
			a     uint32
			n     int
			cause int
		}{{api.MaxMem - 4, 4, 0}, {api.MaxMem - 1, 1, 0}, {api.MaxMem - 2, 4, misalign}, {api.MaxMem, 1, access}, {api.MaxMem, 4, access}} {
			p, got := Store(m, x.a, x.n, 0xaabbccdd)
			want := m
			if x.cause == 0 {
				want = stored(m, x.a, x.n, 0xaabbccdd)
			}
			if got.Cause != x.cause || !same(p, want) {
				t.Errorf("a store of %d bytes at %#x traps with cause %d or stores wrong bytes", x.n, x.a, got.Cause)
			}
		}
	}
}

// P10.1: nil and empty memories are both of no bytes.
func TestNoMemory(t *testing.T) {
	for _, memory := range [][]byte{nil, {}, distinct(spare)[:0]} {
		for _, status := range []uint32{0, supervisor} {
			for _, a := range []uint32{0, 4, half, greatest - 3, greatest} {
				m := machine(0, status, 0, greatest)
				m.Mem = memory
				if p, got := Store(m, a, 1, 1); got != (api.Trap{Cause: access, Tval: a}) || !same(p, m) {
					t.Errorf("a store at %#x of no memory gives %v, %v", a, p, got)
				}
				if v, got := Load(m, a, 1); got != (api.Trap{Cause: access, Tval: a}) || v != 0 {
					t.Errorf("a load at %#x of no memory gives %#x, %v", a, v, got)
				}
			}
		}
	}
}

// P10.1: a load after a store returns the low n bytes of the value.
func TestLoadAfterStore(t *testing.T) {
	eachAccess(func(m api.Machine, a uint32, n int) {
		for _, v := range words {
			p, trap := Store(m, a, n, v)
			if trap.Cause != 0 {
				return
			}
			want := v
			if n == 1 {
				want = v % 256
			}
			if got, trap := Load(p, a, n); got != want || trap != (api.Trap{}) {
				t.Fatalf("%#x stored in %d bytes at %#x loads as %#x, %v", v, n, a, got, trap)
			}
		}
	})
}

// timed returns a machine with that Status, Time and timer compare value.
func timed(status uint32, time, compare uint64) api.Machine {
	m := machine(4, status, 0, 4)
	m.Time, m.Core.Csr[api.Cmp], m.Core.Csr[api.Cmph] = time, uint32(compare%(1<<32)), uint32(compare/(1<<32))
	return m
}

// statuses returns values of Status with every combination of the bits that
// have a name and other bits set and not set.
func statuses() []uint32 {
	out := []uint32{}
	for named := range uint32(16) {
		for _, others := range []uint32{0, 1 << 4, 1 << 31, 0x55555550, 0xfffffff0} {
			out = append(out, others+named)
		}
	}
	return out
}

// P10.2: Time one below, equal to and one above the compare value, with
// interrupts enabled and not, whatever the other bits of Status hold.
func TestTimerPendingAroundCompare(t *testing.T) {
	compares := []uint64{0, 1, 7, 1<<31 - 1, 1 << 31, 1<<32 - 1, 1 << 32, 1<<32 + 1, 5 << 32, 5<<32 + 9, 1<<63 - 1, 1 << 63, math.MaxUint64 - 1, math.MaxUint64}
	for _, status := range statuses() {
		on := status&enable != 0
		for _, compare := range compares {
			if got := TimerPending(timed(status, compare, compare)); got != on {
				t.Errorf("status %#x, time equal to %#x: %t", status, compare, got)
			}
			if compare > 0 && TimerPending(timed(status, compare-1, compare)) {
				t.Errorf("status %#x, time one below %#x: pending", status, compare)
			}
			if compare < math.MaxUint64 && TimerPending(timed(status, compare+1, compare)) != on {
				t.Errorf("status %#x, time one above %#x: not %t", status, compare, on)
			}
		}
	}
}

// P10.2: both are numbers of 64 bits without a sign: the high half counts first.
func TestTimerPendingByHand(t *testing.T) {
	for _, x := range []struct {
		status        uint32
		time, compare uint64
		want          bool
	}{
		{enable, 0, 0, true}, {enable, math.MaxUint64, 0, true}, {enable, 0, math.MaxUint64, false}, {enable, math.MaxUint64, math.MaxUint64, true},
		{enable, 9<<32 + 1, 8<<32 + 2, true}, {enable, 8<<32 + 2, 9<<32 + 1, false}, {enable, 1 << 32, greatest, true}, {enable, greatest, 1 << 32, false},
		{enable, 1 << 63, 1<<63 - 1, true}, {enable, 1<<63 - 1, 1 << 63, false}, {enable, 8<<32 + 1, 8<<32 + 2, false}, {enable, 7, 7 << 32, false},
		{enable, 7 << 32, 7, true}, {0, math.MaxUint64, 0, false}, {0, 0, 0, false}, {supervisor, 9, 9, false}, {supervisor + enable, 9, 9, true},
		{0b1101, 9, 9, false}, {0b1000, 9, 9, false}, {0b1010, 9, 9, true}, {greatest - enable, 9, 9, false},
	} {
		if got := TimerPending(timed(x.status, x.time, x.compare)); got != x.want {
			t.Errorf("status %#b, time %#x, compare value %#x: %t", x.status, x.time, x.compare, got)
		}
	}
}

// P10.2: the time is that of the machine, not what lies in the CSRs Time and
// Timeh, and a halted machine is no other.
func TestTimerPendingOtherParts(t *testing.T) {
	for _, held := range []uint32{0, 1, greatest} {
		for _, halted := range []bool{false, true} {
			early, late := timed(enable, 9, 10), timed(enable, 10, 10)
			for _, m := range []*api.Machine{&early, &late} {
				m.Core.Csr[api.Time], m.Core.Csr[api.Timeh], m.Halted = held, held, halted
			}
			if TimerPending(early) || !TimerPending(late) {
				t.Errorf("with %#x in Time and Timeh, halted %t: %t at 9 and %t at 10", held, halted, TimerPending(early), TimerPending(late))
			}
		}
	}
}

// P10.3: in supervisor mode the physical address is the address itself,
// whatever Base and Bound hold.
func TestSupervisorAddresses(t *testing.T) {
	some := append(around(0, 16, half), 8, 100, 1<<16)
	for _, base := range some {
		for j, bound := range some {
			m := machine(16, supervisorStatuses[j%len(supervisorStatuses)], base, bound)
			for a := range uint32(16) {
				if got, trap := Resolve(m, a, 1); got != a || trap != (api.Trap{}) {
					t.Fatalf("with Base %#x and Bound %#x the byte at %d is at %#x, %v", base, bound, a, got, trap)
				}
			}
			for a := uint32(0); a < 16; a += 4 {
				if got, trap := Resolve(m, a, 4); got != a || trap != (api.Trap{}) {
					t.Fatalf("with Base %#x and Bound %#x the word at %d is at %#x, %v", base, bound, a, got, trap)
				}
			}
		}
	}
}

// P10.4: no call changes the memory or the console output of its argument, nor
// what lies behind them in their arrays.
func TestArgumentsAreLeftAlone(t *testing.T) {
	eachAccess(func(m api.Machine, a uint32, n int) {
		before := m
		Resolve(m, a, n)
		Load(m, a, n)
		Store(m, a, n, 0xaabbccdd)
		TimerPending(m)
		m.Core.Pc = a
		Fetch(m)
		m.Core.Pc = before.Core.Pc
		if !untouched(m) || !same(m, before) {
			t.Fatalf("a call for %d bytes at %#x changed its argument", n, a)
		}
	})
}

// P10.4: a memory that Store returned with a changed cell is a new one: what is
// written to it, also behind its end, is not seen in the argument.
func TestChangingResults(t *testing.T) {
	eachAccess(func(m api.Machine, a uint32, n int) {
		p, trap := Store(m, a, n, 0xaabbccdd)
		if trap.Cause != 0 {
			return
		}
		all := p.Mem[:cap(p.Mem)]
		for at := range all {
			all[at] ^= 0xff
		}
		if !untouched(m) {
			t.Fatalf("the memory with the %d bytes stored at %#x shares bytes with the argument's", n, a)
		}
	})
}

// P10.4: a change of the argument's memory is not seen in a result, and two
// results share no memory.
func TestChangingArguments(t *testing.T) {
	for _, n := range cells {
		m := machine(12, supervisor, 0, 0)
		want := stored(m, 4, n, 0xaabbccdd).Mem
		first, _ := Store(m, 4, n, 0xaabbccdd)
		second, _ := Store(m, 4, n, 0xaabbccdd)
		for at := range m.Mem {
			m.Mem[at] ^= 0xff
			first.Mem[at] ^= 0xff
		}
		if !bytes.Equal(second.Mem, want) {
			t.Errorf("the memory with %d bytes stored became %x, want %x", n, second.Mem, want)
		}
	}
}

// The chapter's example.
func TestExample(t *testing.T) {
	for _, status := range []uint32{0, supervisor} {
		v, trap := Load(machine(32, status, 0, 32), 2, 4)
		if v != 0 || trap != (api.Trap{Cause: api.Misaligned, Tval: 2}) {
			t.Errorf("loading a word at address 2 gives %#x, %v", v, trap)
		}
	}
}

// P1: a number of bytes that the chapter leaves open still gets an answer.
func TestOpenArgumentsEnd(t *testing.T) {
	for _, n := range []int{math.MinInt, -1 << 32, -4, -1, 0, 2, 3, 5, 8, 12, 1 << 32, math.MaxInt} {
		eachMachine(func(m api.Machine) {
			for _, a := range addresses(m) {
				Resolve(m, a, n)
				Load(m, a, n)
				Store(m, a, n, 0xaabbccdd)
			}
		})
	}
}
