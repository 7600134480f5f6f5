package reloc

import (
	"math"
	"testing"

	"gaoler/api"
)

const (
	greatest = math.MaxUint32
	half     = 1 << 31 // the greatest end that a partition may have
)

// cells holds the numbers of bytes that a cell may have.
var cells = []int{1, 4}

// userStatuses and supervisorStatuses hold values of Status that differ in
// other bits than Mode.
var (
	userStatuses       = []uint32{0, api.Ie, api.Pmode, api.Pie, api.Pmode | api.Pie, api.Ie | api.Pmode | api.Pie, greatest &^ api.Mode}
	supervisorStatuses = []uint32{api.Mode, api.Mode | api.Ie, api.Mode | api.Pmode, api.Mode | api.Pie, greatest}
)

// core returns a processor with that Status, Base and Bound. All else in it is
// filled with numbers that no result may show.
func core(status, base, bound uint32) api.Core {
	c := api.Core{Pc: 0x5a5a5a5a}
	for i := range c.Regs {
		c.Regs[i] = 0x1000*uint32(i) + 3
	}
	for i := range c.Csr {
		c.Csr[i] = 0xaaaa0001 + 0x100*uint32(i)
	}
	c.Csr[api.Status], c.Csr[api.Base], c.Csr[api.Bound] = status, base, bound
	return c
}

// numbers returns 0 and a few more, those next to some powers of two, and those
// near the greatest.
func numbers() []uint32 {
	out := []uint32{}
	for low := range uint32(10) {
		out = append(out, low)
	}
	for _, at := range []uint32{1 << 8, 1 << 16, half} {
		out = append(out, at-4, at-1, at, at+1)
	}
	for back := range uint32(10) {
		out = append(out, greatest-back)
	}
	return out
}

// translated is what a translation returns: it asks of each byte of the cell
// whether the bound and the memory have it, in numbers too wide to wrap around.
func translated(base, bound, size, a uint32, n int) (uint32, bool) {
	for i := range uint64(n) {
		virtual := uint64(a) + i
		if virtual >= uint64(bound) || uint64(base)+virtual >= uint64(size) {
			return 0, false
		}
	}
	return uint32(uint64(base) + uint64(a)), true
}

// composed is what Compose returns in user mode. What is left of the partition
// is computed as a number that may be negative.
func composed(p api.Partition, base, bound uint32) (uint32, uint32) {
	inside := int64(p.Size) - int64(base)
	switch {
	case inside <= 0 || bound == 0:
		return 0, 0
	case int64(bound) > inside:
		return uint32(uint64(p.Base) + uint64(base)), uint32(inside)
	}
	return uint32(uint64(p.Base) + uint64(base)), bound
}

// P6.1: cells at the last address that the bound or the memory allows and at
// the first that it doesn't.
func TestTranslateNamed(t *testing.T) {
	for _, x := range []struct {
		base, bound, size, a uint32
		n                    int
		want                 uint32
		ok                   bool
	}{
		{8, 16, 20, 8, 4, 16, true}, {8, 16, 20, 9, 4, 0, false}, {8, 16, 20, 12, 4, 0, false}, // the chapter's example: the memory ends first
		{8, 16, 20, 11, 1, 19, true}, {8, 16, 20, 12, 1, 0, false},
		{8, 16, 100, 12, 4, 20, true}, {8, 16, 100, 13, 4, 0, false}, // the bound ends first
		{8, 16, 100, 15, 1, 23, true}, {8, 16, 100, 16, 1, 0, false},
		{8, 16, 24, 12, 4, 20, true}, {8, 16, 24, 13, 4, 0, false}, // both end at one place
		{8, 16, 24, 15, 1, 23, true}, {8, 16, 24, 16, 1, 0, false},
		{0, 0, 0, 0, 1, 0, false}, {0, 0, 0, 0, 4, 0, false},
		{0, 0, 100, 0, 1, 0, false}, {0, 100, 0, 0, 1, 0, false}, {4, 0, 100, 0, 4, 0, false},
		{0, 1, 1, 0, 1, 0, true}, {0, 1, 1, 1, 1, 0, false}, {0, 1, 1, 0, 4, 0, false},
		{0, 3, 100, 0, 4, 0, false}, {0, 4, 100, 0, 4, 0, true}, {0, 100, 3, 0, 4, 0, false}, {0, 100, 4, 0, 4, 0, true},
		{100, 4, 100, 0, 1, 0, false}, {99, 4, 100, 0, 1, 99, true}, {101, 4, 100, 0, 1, 0, false},
		{1, 8, 100, 2, 4, 3, true}, {3, 8, 100, 3, 1, 6, true}, // translation asks for no alignment
	} {
		if got, ok := Translate(x.base, x.bound, x.size, x.a, x.n); got != x.want || ok != x.ok {
			t.Errorf("Translate(%d, %d, %d, %d, %d) = %d, %v, want %d, %v", x.base, x.bound, x.size, x.a, x.n, got, ok, x.want, x.ok)
		}
	}
}

// P6.1: ends next to the greatest word and above it, which aren't lost by
// wrapping around.
func TestTranslateNearGreatest(t *testing.T) {
	for _, x := range []struct {
		base, bound, size, a uint32
		n                    int
		want                 uint32
		ok                   bool
	}{
		{0, greatest, greatest, greatest - 4, 4, greatest - 4, true}, {0, greatest, greatest, greatest - 3, 4, 0, false},
		{0, greatest, greatest, greatest - 1, 1, greatest - 1, true}, {0, greatest, greatest, greatest, 1, 0, false},
		{0, greatest, greatest, greatest, 4, 0, false}, {0, 16, 16, greatest, 1, 0, false}, {0, 16, 16, greatest - 3, 4, 0, false},
		{greatest - 7, 8, greatest, 3, 4, greatest - 4, true}, {greatest - 7, 8, greatest, 4, 4, 0, false},
		{greatest - 7, 8, greatest, 6, 1, greatest - 1, true}, {greatest - 7, 8, greatest, 7, 1, 0, false},
		{greatest, 8, greatest, 0, 1, 0, false}, {greatest, 8, greatest, 1, 4, 0, false}, {greatest, 16, 16, 1, 4, 0, false},
		{greatest, greatest, greatest, greatest - 1, 1, 0, false}, {greatest, greatest, greatest, greatest, 4, 0, false},
		{half, greatest, greatest, half - 5, 4, greatest - 4, true}, {half, greatest, greatest, half - 4, 4, 0, false},
		{half, greatest, greatest, half - 2, 1, greatest - 1, true}, {half, greatest, greatest, half - 1, 1, 0, false},
		{half, greatest, greatest, half, 1, 0, false}, {half, greatest, 16, half, 4, 0, false}, {half, greatest, 16, half - 4, 4, 0, false},
	} {
		if got, ok := Translate(x.base, x.bound, x.size, x.a, x.n); got != x.want || ok != x.ok {
			t.Errorf("Translate(%#x, %#x, %#x, %#x, %d) = %#x, %v, want %#x, %v", x.base, x.bound, x.size, x.a, x.n, got, ok, x.want, x.ok)
		}
	}
}

// P6.1: every base, bound, size and address of a set of small and great ones.
func TestTranslateEverywhere(t *testing.T) {
	some := numbers()
	for _, base := range some {
		for _, bound := range some {
			for _, size := range some {
				for _, a := range some {
					for _, n := range cells {
						want, in := translated(base, bound, size, a, n)
						if got, ok := Translate(base, bound, size, a, n); got != want || ok != in {
							t.Fatalf("Translate(%#x, %#x, %#x, %#x, %d) = %#x, %v, want %#x, %v", base, bound, size, a, n, got, ok, want, in)
						}
					}
				}
			}
		}
	}
}

// P6.1: the last address and the next, in both modes.
func TestTranslateCoreNamed(t *testing.T) {
	for _, x := range []struct {
		c       api.Core
		size, a uint32
		n       int
		want    uint32
		ok      bool
	}{
		{core(api.Mode, 8, 16), 20, 16, 4, 16, true}, {core(api.Mode, 8, 16), 20, 17, 4, 0, false},
		{core(api.Mode, 8, 16), 20, 19, 1, 19, true}, {core(api.Mode, 8, 16), 20, 20, 1, 0, false},
		{core(api.Mode, greatest, 0), 20, 0, 4, 0, true}, {core(api.Mode, 0, greatest), 20, 20, 1, 0, false},
		{core(api.Mode, 0, greatest), 0, 0, 1, 0, false},
		{core(0, 8, 16), 20, 8, 4, 16, true}, {core(0, 8, 16), 20, 12, 4, 0, false},
		{core(0, 8, 16), 100, 12, 4, 20, true}, {core(0, 8, 16), 100, 13, 4, 0, false},
		{core(0, 8, 16), 100, 15, 1, 23, true}, {core(0, 8, 16), 100, 16, 1, 0, false},
		{core(0, 8, 0), 100, 0, 1, 0, false}, {core(0, greatest, 8), 100, 1, 4, 0, false},
		{core(api.Pmode, 8, 16), 100, 0, 4, 8, true}, {core(api.Mode|api.Pmode, 8, 16), 100, 0, 4, 0, true},
	} {
		if got, ok := TranslateCore(x.c, x.size, x.a, x.n); got != x.want || ok != x.ok {
			t.Errorf("TranslateCore(%v, %d, %d, %d) = %d, %v, want %d, %v", x.c.Csr, x.size, x.a, x.n, got, ok, x.want, x.ok)
		}
	}
}

// P6.1: in supervisor mode the base is 0 and the bound is the size, whatever
// Base and Bound hold.
func TestTranslateCoreSupervisor(t *testing.T) {
	some := numbers()
	for i, base := range some {
		for j, bound := range some {
			c := core(supervisorStatuses[(i+j)%len(supervisorStatuses)], base, bound)
			for _, size := range some {
				for _, a := range some {
					for _, n := range cells {
						want, in := translated(0, size, size, a, n)
						if got, ok := TranslateCore(c, size, a, n); got != want || ok != in {
							t.Fatalf("TranslateCore(%v, %#x, %#x, %d) = %#x, %v, want %#x, %v", c.Csr, size, a, n, got, ok, want, in)
						}
					}
				}
			}
		}
	}
}

// P6.1: in user mode the base and the bound are those of the CSRs.
func TestTranslateCoreUser(t *testing.T) {
	some := numbers()
	for i, base := range some {
		for j, bound := range some {
			c := core(userStatuses[(i+j)%len(userStatuses)], base, bound)
			for _, size := range some {
				for _, a := range some {
					for _, n := range cells {
						want, in := translated(base, bound, size, a, n)
						if got, ok := TranslateCore(c, size, a, n); got != want || ok != in {
							t.Fatalf("TranslateCore(%v, %#x, %#x, %d) = %#x, %v, want %#x, %v", c.Csr, size, a, n, got, ok, want, in)
						}
					}
				}
			}
		}
	}
}

// P6.2: the guest's Base below, at and above the size, its Bound below, at and
// above what is left, in a partition in the middle of a memory.
func TestComposeNamed(t *testing.T) {
	for _, x := range []struct {
		guestBase, guestBound, base, bound uint32
	}{
		{0, 0, 0, 0}, {0, 1, 64, 1}, {0, 31, 64, 31}, {0, 32, 64, 32}, {0, 33, 64, 32}, {0, greatest, 64, 32},
		{8, 0, 0, 0}, {8, 1, 72, 1}, {8, 23, 72, 23}, {8, 24, 72, 24}, {8, 25, 72, 24}, {8, greatest, 72, 24},
		{31, 0, 0, 0}, {31, 1, 95, 1}, {31, 2, 95, 1}, {31, greatest, 95, 1},
		{32, 0, 0, 0}, {32, 1, 0, 0}, {32, greatest, 0, 0},
		{33, 0, 0, 0}, {33, 1, 0, 0}, {33, greatest, 0, 0},
		{greatest - 63, 1, 0, 0}, {greatest - 63, greatest, 0, 0}, {greatest - 3, 100, 0, 0},
		{greatest, 0, 0, 0}, {greatest, 1, 0, 0}, {greatest, greatest, 0, 0}, {half, half, 0, 0}, {half + 8, 4, 0, 0},
	} {
		for _, status := range userStatuses {
			base, bound := Compose(api.Partition{Base: 64, Size: 32}, core(status, x.guestBase, x.guestBound))
			if base != x.base || bound != x.bound {
				t.Errorf("Base %#x and Bound %#x compose to %#x, %#x, want %#x, %#x", x.guestBase, x.guestBound, base, bound, x.base, x.bound)
			}
		}
	}
}

// P6.2: partitions that end at 2^31, and the empty ones.
func TestComposeAtTheEdges(t *testing.T) {
	for _, x := range []struct {
		p                                  api.Partition
		guestBase, guestBound, base, bound uint32
	}{
		{api.Partition{Base: 0, Size: half}, 0, greatest, 0, half},
		{api.Partition{Base: 0, Size: half}, half - 4, greatest, half - 4, 4},
		{api.Partition{Base: 0, Size: half}, half, greatest, 0, 0},
		{api.Partition{Base: 0, Size: half}, greatest, greatest, 0, 0},
		{api.Partition{Base: half - 8, Size: 8}, 4, 8, half - 4, 4},
		{api.Partition{Base: half - 8, Size: 8}, 7, 8, half - 1, 1},
		{api.Partition{Base: half - 8, Size: 8}, 8, 8, 0, 0},
		{api.Partition{Base: half - 8, Size: 8}, half + 8, 8, 0, 0},
		{api.Partition{Base: 1, Size: half - 1}, half - 2, 9, half - 1, 1},
		{api.Partition{Base: half, Size: 0}, 0, greatest, 0, 0},
		{api.Partition{Base: half, Size: 0}, half, greatest, 0, 0},
		{api.Partition{Base: 64, Size: 0}, 0, 1, 0, 0},
		{api.Partition{}, 0, 0, 0, 0},
		{api.Partition{}, greatest, greatest, 0, 0},
	} {
		if base, bound := Compose(x.p, core(0, x.guestBase, x.guestBound)); base != x.base || bound != x.bound {
			t.Errorf("Base %#x and Bound %#x in %v compose to %#x, %#x, want %#x, %#x", x.guestBase, x.guestBound, x.p, base, bound, x.base, x.bound)
		}
		if base, bound := Compose(x.p, core(api.Mode, x.guestBase, x.guestBound)); base != x.p.Base || bound != x.p.Size {
			t.Errorf("in supervisor mode %v is composed to %#x, %#x", x.p, base, bound)
		}
	}
}

// partitions returns the partitions made of small and great numbers that end at
// 2^31 at the latest.
func partitions() []api.Partition {
	out := []api.Partition{}
	for _, base := range numbers() {
		for _, size := range numbers() {
			if uint64(base)+uint64(size) <= half {
				out = append(out, api.Partition{Base: base, Size: size})
			}
		}
		if base <= half {
			out = append(out, api.Partition{Base: base, Size: half - base})
		}
	}
	return out
}

// P6.2: both modes, every Base and Bound of a set of small and great ones; in
// supervisor mode they don't count.
func TestComposeEverywhere(t *testing.T) {
	for _, p := range partitions() {
		guests := append(numbers(), p.Size-1, p.Size, p.Size+1, greatest-p.Base, greatest-p.Base+1)
		for i, base := range guests {
			for j, bound := range guests {
				wantBase, wantBound := composed(p, base, bound)
				c := core(userStatuses[(i+j)%len(userStatuses)], base, bound)
				if gotBase, gotBound := Compose(p, c); gotBase != wantBase || gotBound != wantBound {
					t.Fatalf("Compose(%v, %v) = %#x, %#x, want %#x, %#x", p, c.Csr, gotBase, gotBound, wantBase, wantBound)
				}
				c = core(supervisorStatuses[(i+j)%len(supervisorStatuses)], base, bound)
				if gotBase, gotBound := Compose(p, c); gotBase != p.Base || gotBound != p.Size {
					t.Fatalf("Compose(%v, %v) = %#x, %#x in supervisor mode", p, c.Csr, gotBase, gotBound)
				}
			}
		}
	}
}

// checkAgreement translates the cells at address a by the composed base and
// bound in a memory of that size, and holds the results against those of the
// guest alone.
func checkAgreement(t *testing.T, p api.Partition, c api.Core, size, a uint32) {
	t.Helper()
	base, bound := Compose(p, c)
	for _, n := range cells {
		alone, in := TranslateCore(c, p.Size, a, n)
		got, ok := Translate(base, bound, size, a, n)
		if ok != in || ok && got != p.Base+alone || !ok && got != 0 {
			t.Fatalf("the %d bytes at %#x of %v in %v are at %#x, %v in the partition and at %#x, %v alone", n, a, c.Csr, p, got, ok, alone, in)
		}
		if ok && (got < p.Base || uint64(got)+uint64(n) > uint64(p.Base)+uint64(p.Size)) {
			t.Fatalf("the %d bytes at %#x of %v in %v are at %#x, outside the partition", n, a, c.Csr, p, got)
		}
	}
}

// P6.3: small partitions at different places, in memories that end with the
// partition or later, every small Base and Bound, both modes and every address.
func TestComposedTranslationOfSmallPartitions(t *testing.T) {
	for _, at := range []uint32{0, 1, 4, 7, 64, half - 9} {
		for partSize := range uint32(10) {
			p := api.Partition{Base: at, Size: partSize}
			for _, size := range []uint32{at + partSize, at + partSize + 1, at + partSize + 6, greatest} {
				for guestBase := range partSize + 3 {
					for guestBound := range partSize + 3 {
						for a := range partSize + 5 {
							checkAgreement(t, p, core(0, guestBase, guestBound), size, a)
							checkAgreement(t, p, core(api.Mode, guestBase, guestBound), size, a)
						}
					}
				}
			}
		}
	}
}

// P6.3: the same with great numbers among the partitions, the guest's Base and
// Bound, and the addresses.
func TestComposedTranslationOfGreatNumbers(t *testing.T) {
	some := []uint32{0, 1, 4, 8, 1 << 16, half - 4, half - 1, half, half + 1, greatest - 8, greatest - 4, greatest - 3, greatest - 1, greatest}
	for _, p := range partitions() {
		for _, size := range []uint32{p.Base + p.Size, greatest} {
			for _, guestBase := range append([]uint32{p.Size - 4, p.Size, greatest - p.Base + 1}, some...) {
				for _, guestBound := range some {
					for _, a := range append([]uint32{p.Size - 4, p.Size - 1, p.Size}, some...) {
						checkAgreement(t, p, core(api.Ie, guestBase, guestBound), size, a)
						checkAgreement(t, p, core(api.Mode|api.Ie, guestBase, guestBound), size, a)
					}
				}
			}
		}
	}
}

// P6.3: an example with known addresses, so that it doesn't hold by failures
// alone.
func TestComposedTranslationNamed(t *testing.T) {
	p := api.Partition{Base: 64, Size: 32}
	for _, x := range []struct {
		c    api.Core
		a    uint32
		n    int
		want uint32
		ok   bool
	}{
		{core(0, 8, 100), 0, 4, 72, true}, {core(0, 8, 100), 20, 4, 92, true}, {core(0, 8, 100), 21, 4, 0, false},
		{core(0, 8, 100), 23, 1, 95, true}, {core(0, 8, 100), 24, 1, 0, false},
		{core(0, 8, 6), 2, 4, 74, true}, {core(0, 8, 6), 3, 4, 0, false}, {core(0, 8, 6), 5, 1, 77, true}, {core(0, 8, 6), 6, 1, 0, false},
		{core(0, 32, 100), 0, 1, 0, false}, {core(0, greatest-3, 100), 8, 4, 0, false}, {core(0, 8, 0), 0, 1, 0, false},
		{core(api.Mode, 8, 4), 28, 4, 92, true}, {core(api.Mode, 8, 4), 29, 4, 0, false},
		{core(api.Mode, 8, 4), 31, 1, 95, true}, {core(api.Mode, 8, 4), 32, 1, 0, false},
	} {
		base, bound := Compose(p, x.c)
		if got, ok := Translate(base, bound, 200, x.a, x.n); got != x.want || ok != x.ok {
			t.Errorf("the %d bytes at %d of %v are at %d, %v, want %d, %v", x.n, x.a, x.c.Csr, got, ok, x.want, x.ok)
		}
		checkAgreement(t, p, x.c, 200, x.a)
	}
}

// P6.2: the minimum is that of all the numbers, wherever it stands.
func TestLeast(t *testing.T) {
	for i, x := range []struct {
		got, want uint32
	}{
		{least(7), 7}, {least(3, 5), 3}, {least(5, 3), 3}, {least(0, greatest), 0}, {least(greatest, 0), 0},
		{least(2, 2), 2}, {least(9, 4, 6), 4}, {least(9, 6, 4), 4}, {least(4, 9, 6), 4}, {least(greatest, half), half},
	} {
		if x.got != x.want {
			t.Errorf("case %d: %d, want %d", i, x.got, x.want)
		}
	}
}

// P1: a number of bytes or a partition that the chapter leaves open still gets
// an answer.
func TestOpenArgumentsEnd(t *testing.T) {
	for _, n := range []int{math.MinInt, -4, -1, 0, 2, 3, 5, 8, math.MaxInt} {
		for _, a := range numbers() {
			Translate(greatest, greatest, greatest, a, n)
			Translate(0, a, a, a, n)
			TranslateCore(core(api.Mode, a, a), a, a, n)
			TranslateCore(core(0, a, a), a, a, n)
		}
	}
	for _, base := range numbers() {
		for _, size := range numbers() {
			Compose(api.Partition{Base: base, Size: size}, core(0, base, size))
			Compose(api.Partition{Base: base, Size: size}, core(api.Mode, base, size))
		}
	}
}
