package config

import (
	"bytes"
	"math"
	"slices"
	"testing"

	"gaoler/api"
	"gaoler/csr"
)

// expect holds Validate of c against the answer.
func expect(t *testing.T, c api.Config, want api.Errno) {
	t.Helper()
	if got := Validate(c); got != want {
		t.Fatalf("a host of %d bytes with %d guests %v: %d, want %d", c.Size, len(c.Guests), parts(c), got, want)
	}
}

// parts returns the partitions, of a few guests at most.
func parts(c api.Config) []api.Partition {
	var l []api.Partition
	for _, g := range c.Guests[:min(len(c.Guests), 20)] {
		l = append(l, g.Part)
	}
	return l
}

// P15.1: the number of guests, where nothing else is wrong.
func TestGuestCount(t *testing.T) {
	for n, want := range map[int]api.Errno{
		0: api.ErrGuestCount, 1: api.OK, 2: api.OK, 3: api.OK, 15: api.OK, 16: api.OK,
		17: api.ErrGuestCount, 18: api.ErrGuestCount, 32: api.ErrGuestCount, 256: api.ErrGuestCount, 257: api.ErrGuestCount, 272: api.ErrGuestCount,
	} {
		expect(t, row(n), want)
	}
	expect(t, api.Config{}, api.ErrGuestCount)
	expect(t, api.Config{Size: 64, Guests: []api.Guest{}}, api.ErrGuestCount)
	expect(t, conf(1<<20, make([]api.Guest, 1<<16+1)...), api.ErrGuestCount)
}

// P15.1: the Size of the configuration, with one guest that fits into each that
// is not 0.
func TestSize(t *testing.T) {
	one := guest(0, 4, 4)
	for size, want := range map[uint32]api.Errno{
		0: api.ErrPartition, 4: api.OK, 8: api.OK, 100: api.OK, 65528: api.OK, 65532: api.OK, 65536: api.OK,
		1: api.ErrArg, 2: api.ErrArg, 3: api.ErrArg, 5: api.ErrArg, 6: api.ErrArg, 7: api.ErrArg, 9: api.ErrArg, 65533: api.ErrArg, 65534: api.ErrArg, 65535: api.ErrArg,
		65537: api.ErrArg, 65538: api.ErrArg, 65539: api.ErrArg, 65540: api.ErrArg, 65544: api.ErrArg, 1 << 17: api.ErrArg, 1<<17 + 4: api.ErrArg,
		1 << 31: api.ErrArg, 1<<31 + 4: api.ErrArg, math.MaxUint32 - 3: api.ErrArg, math.MaxUint32: api.ErrArg,
	} {
		expect(t, conf(size, one), want)
	}
	for size := uint32(4); size <= 65540; size++ {
		want := api.OK
		if size%4 != 0 || size > 65536 {
			want = api.ErrArg
		}
		expect(t, conf(size, one), want)
	}
}

// fault is a change of one guest of row, and what follows from it.
type fault struct {
	name  string
	want  api.Errno
	spoil func(g *api.Guest, size uint32)
}

// moved is a fault that puts the partition elsewhere, within the guest's slot or
// into what belongs to nobody.
func moved(name string, want api.Errno, base, size uint32) fault {
	return fault{name, want, func(g *api.Guest, _ uint32) { g.Part, g.Mem = api.Partition{Base: base, Size: size}, nil }}
}

// shifted is a fault that adds to Base and Size.
func shifted(name string, want api.Errno, base, size uint32) fault {
	return fault{name, want, func(g *api.Guest, _ uint32) { g.Part.Base, g.Part.Size = g.Part.Base+base, g.Part.Size+size }}
}

// toEnd is a fault that puts the partition so far before the end of the host.
func toEnd(name string, want api.Errno, before, size uint32) fault {
	return fault{name, want, func(g *api.Guest, host uint32) {
		g.Part, g.Mem = api.Partition{Base: host - before, Size: size}, nil
	}}
}

// holding is a fault that changes the length of Mem.
func holding(name string, want api.Errno, n int) fault {
	return fault{name, want, func(g *api.Guest, _ uint32) { g.Mem = spacious(noise(n, n)) }}
}

// faults returns each way in which one guest is invalid, and next to each the
// last way in which it is not. A partition that a sum of 32 bits finds inside of
// the host lies where nobody's partition is.
func faults() []fault {
	bad := api.ErrPartition
	return []fault{
		shifted("nothing", api.OK, 0, 0),
		shifted("Base a word less", api.OK, math.MaxUint32-3, 0), shifted("Base a word more", api.OK, 4, 0),
		shifted("Base 1 more", bad, 1, 0), shifted("Base 2 more", bad, 2, 0), shifted("Base 3 more", bad, 3, 0),
		shifted("Base 1 less", bad, math.MaxUint32, 0), shifted("Base 2 less", bad, math.MaxUint32-1, 0), shifted("Base 3 less", bad, math.MaxUint32-2, 0),
		shifted("Size a word more", api.OK, 0, 4),
		shifted("Size 1 more", bad, 0, 1), shifted("Size 2 more", bad, 0, 2), shifted("Size 3 more", bad, 0, 3),
		shifted("Size 1 less", bad, 0, math.MaxUint32), shifted("Size 2 less", bad, 0, math.MaxUint32-1), shifted("Size 3 less", bad, 0, math.MaxUint32-2),
		shifted("neither a multiple, their sum one", bad, 2, 2), shifted("neither a multiple, the end where it was", bad, 1, math.MaxUint32),
		{"Size 0", bad, func(g *api.Guest, _ uint32) { g.Part.Size, g.Mem = 0, nil }},
		moved("Base and Size 0", bad, 0, 0), toEnd("Size 0 at the end", bad, 0, 0), toEnd("Size 0 behind the end", bad, math.MaxUint32-3, 0),
		toEnd("ends at the end", api.OK, 8, 8), toEnd("ends at the end, a word", api.OK, 4, 4), toEnd("ends a word before the end", api.OK, 12, 8),
		toEnd("ends a word behind the end", bad, 8, 12), toEnd("ends two words behind the end", bad, 4, 12),
		toEnd("begins at the end", bad, 0, 4), toEnd("begins behind the end", bad, math.MaxUint32-3, 4),
		toEnd("a great Size, the sum below 2^31", bad, 8, 1<<30), toEnd("a great Size, the sum above 2^31", bad, 8, 1<<31),
		moved("the sum 2^31", bad, 1<<30, 1<<30), moved("the sum 2^32-4", bad, 8, math.MaxUint32-11),
		moved("the sum 2^32, a small Size", bad, math.MaxUint32-7, 8), moved("the sum 2^32, a small Base", bad, 8, math.MaxUint32-7),
		moved("the sum 2^32, both great", bad, 1<<31, 1<<31), moved("the sum 2^32, the smallest Base", bad, 4, math.MaxUint32-3),
		moved("the sum 2^32+4, a small Size", bad, math.MaxUint32-3, 8), moved("the sum 2^32+4, a small Base", bad, 8, math.MaxUint32-3),
		moved("the sum 2^32+8, both great", bad, 1<<31+4, 1<<31+4), moved("the greatest sum", bad, math.MaxUint32-3, math.MaxUint32-3),
		moved("a Size of 2^32-4", bad, 0, math.MaxUint32-3), moved("a Base of 2^32-4", bad, math.MaxUint32-3, 4), moved("a Base of 2^31", bad, 1<<31, 8),
		holding("Mem nil", api.OK, 0), holding("Mem a byte", api.OK, 1), holding("Mem a byte shorter", api.OK, 7), holding("Mem as long", api.OK, 8),
		holding("Mem a byte longer", bad, 9), holding("Mem a word longer", bad, 12), holding("Mem twice as long", bad, 16),
		holding("Mem 256 bytes longer", bad, 264), holding("Mem 65536 bytes longer", bad, 65544), holding("Mem as long as the host may be", bad, 65536),
		{"Mem empty", api.OK, func(g *api.Guest, _ uint32) { g.Mem = []byte{} }},
		{"Mem as long as a longer partition", api.OK, func(g *api.Guest, _ uint32) { g.Part.Size, g.Mem = 12, noise(1, 12) }},
		{"Mem longer than a shorter partition", bad, func(g *api.Guest, _ uint32) { g.Part.Size, g.Mem = 4, noise(1, 5) }},
		{"Mem that fits, though not at Base", api.OK, func(g *api.Guest, host uint32) {
			g.Part, g.Mem = api.Partition{Base: host - 8, Size: 8}, noise(1, 8)
		}},
		{"other registers and program counter", api.OK, func(g *api.Guest, _ uint32) { g.Regs[0], g.Regs[7], g.Pc = 1, math.MaxUint32, math.MaxUint32 }},
	}
}

// spoilt returns row with the faults in the guests of those indices.
func spoilt(n int, f fault, at ...int) api.Config {
	c := row(n)
	for _, k := range at {
		f.spoil(&c.Guests[k], c.Size)
	}
	return c
}

// P15.1: each fault in the first, the last and each other guest, by hand and byte
// by byte.
func TestFaults(t *testing.T) {
	for _, f := range faults() {
		t.Run(f.name, func(t *testing.T) {
			for _, n := range []int{1, 2, 3, 7, 16} {
				for at := range n {
					c := spoilt(n, f, at)
					expect(t, c, f.want)
					expect(t, c, verdict(c))
				}
				if f.want != api.OK && n > 1 {
					expect(t, spoilt(n, f, 0, n-1), f.want)
				}
			}
		})
	}
}

// P15.1: one guest at each place of each length in a host of 12 bytes.
func TestOneGuest(t *testing.T) {
	answers := map[api.Errno]int{}
	for base := range uint32(15) {
		for size := range uint32(15) {
			for n := range 15 {
				c := conf(12, guest(base, size, n))
				want := verdict(c)
				expect(t, c, want)
				answers[want]++
			}
		}
	}
	// three of one word with 5 lengths of Mem, two of two with 9, one of three with 13
	if answers[api.OK] != 3*5+2*9+13 || answers[api.OK]+answers[api.ErrPartition] != 15*15*15 {
		t.Errorf("the numbers of answers are %v", answers)
	}
}

// P15.1: two and three guests, each at each place of each number of words in a
// host of 16 bytes.
func TestAllSmallPartitions(t *testing.T) {
	var l []api.Guest
	for base := uint32(0); base <= 16; base += 4 {
		for size := uint32(0); size <= 16; size += 4 {
			l = append(l, guest(base, size, 0))
		}
	}
	answers := map[api.Errno]int{}
	for _, g := range l {
		for _, h := range l {
			pair := conf(16, g, h)
			expect(t, pair, verdict(pair))
			answers[verdict(pair)]++
			for _, i := range l {
				triple := conf(16, g, h, i)
				expect(t, triple, verdict(triple))
			}
		}
	}
	// the 10 valid partitions of 4 words make 100 pairs, of which 2 * 15 are apart
	if answers[api.OK] != 30 || answers[api.ErrOverlap] != 70 || answers[api.ErrPartition] != 625-100 {
		t.Errorf("the numbers of answers are %v", answers)
	}
}

// place is where a partition is put by another one of two words.
type place struct {
	name       string
	base, size uint32
	want       api.Errno
}

const wordLess = math.MaxUint32 - 3

var places = []place{
	{"equal", 0, 8, api.ErrOverlap},
	{"contains it, a word before and one behind", wordLess, 16, api.ErrOverlap},
	{"contains it, a word before", wordLess, 12, api.ErrOverlap},
	{"contains it, a word behind", 0, 12, api.ErrOverlap},
	{"its first word", 0, 4, api.ErrOverlap},
	{"its last word", 4, 4, api.ErrOverlap},
	{"its first word and the one before", wordLess, 8, api.ErrOverlap},
	{"its last word and the one behind", 4, 8, api.ErrOverlap},
	{"touches it from before", wordLess, 4, api.OK},
	{"touches it from behind", 8, 4, api.OK},
}

// P15.1: each pair of guests, among them the first and the last one, with the
// partition of the one put by that of the other in every way.
func TestPairs(t *testing.T) {
	for _, p := range places {
		t.Run(p.name, func(t *testing.T) {
			for _, n := range []int{2, 3, 16} {
				for one := range n {
					for other := range n {
						if one == other {
							continue
						}
						c := row(n)
						c.Guests[one].Part = api.Partition{Base: c.Guests[other].Part.Base + p.base, Size: p.size}
						c.Guests[one].Mem = nil
						expect(t, c, p.want)
						expect(t, c, verdict(c))
					}
				}
			}
		})
	}
}

// P15.1: more pairs than one, and one that contains all others.
func TestManyPairs(t *testing.T) {
	all := row(16)
	all.Guests[15].Part = api.Partition{Base: 0, Size: all.Size}
	expect(t, all, api.ErrOverlap)
	equal := row(16)
	for n := range equal.Guests {
		equal.Guests[n].Part = equal.Guests[0].Part
	}
	expect(t, equal, api.ErrOverlap)
	expect(t, conf(16, guest(0, 8, 0), guest(4, 8, 0), guest(8, 8, 0)), api.ErrOverlap)
	expect(t, conf(16, guest(0, 8, 0), guest(8, 8, 0), guest(4, 8, 0)), api.ErrOverlap)
	expect(t, conf(16, guest(8, 8, 0), guest(0, 4, 0), guest(4, 4, 0)), api.OK)
}

// P15.1: the order of the guests makes no difference.
func TestOrder(t *testing.T) {
	for _, x := range samples() {
		c := x.c
		expect(t, c, api.OK)
		slices.Reverse(c.Guests)
		expect(t, c, api.OK)
	}
	c := row(3)
	c.Guests[2].Part.Base = c.Guests[0].Part.Base + 4
	for _, order := range [][]int{{0, 1, 2}, {0, 2, 1}, {1, 0, 2}, {1, 2, 0}, {2, 0, 1}, {2, 1, 0}} {
		expect(t, conf(c.Size, c.Guests[order[0]], c.Guests[order[1]], c.Guests[order[2]]), api.ErrOverlap)
	}
}

// P15.1: of several faults at once, the first in the chapter's order.
func TestSeveralFaults(t *testing.T) {
	for _, count := range []int{0, 1, 3, 16, 17} {
		for _, size := range []uint32{0, 2, 300, 302, 65536, 65540, math.MaxUint32 - 3, math.MaxUint32} {
			for _, f := range faults() {
				for _, overlapping := range []bool{false, true} {
					for at := range max(count, 1) {
						expectFirst(t, count, size, f, at, overlapping)
					}
				}
			}
		}
	}
}

// expectFirst holds Validate of a configuration with so many guests, that size, a
// fault in the guest at and, if so, an overlap of two others against the first of
// the errors.
func expectFirst(t *testing.T, count int, size uint32, f fault, at int, overlapping bool) {
	t.Helper()
	c := row(count)
	if at < count {
		f.spoil(&c.Guests[at], size)
	}
	if overlapping && count >= 3 {
		c.Guests[(at+1)%count].Part = c.Guests[(at+2)%count].Part
	}
	c.Size = size
	want := verdict(c)
	switch {
	case count == 0 || count == 17:
		want = api.ErrGuestCount
	case size%4 != 0 || size > 65536:
		want = api.ErrArg
	case size == 0 || f.want != api.OK && size == 65536:
		want = api.ErrPartition
	}
	expect(t, c, want)
}

// P15.1: pairs of errors, by hand.
func TestTwoFaults(t *testing.T) {
	seventeen := func(g api.Guest) []api.Guest { return slices.Repeat([]api.Guest{g}, 17) }
	for n, x := range []struct {
		c    api.Config
		want api.Errno
	}{
		{conf(3), api.ErrGuestCount},
		{conf(65540), api.ErrGuestCount},
		{conf(65540, seventeen(guest(0, 4, 0))...), api.ErrGuestCount},
		{conf(16, seventeen(guest(1, 4, 0))...), api.ErrGuestCount},
		{conf(16, seventeen(guest(0, 4, 0))...), api.ErrGuestCount},
		{conf(15, guest(1, 4, 0)), api.ErrArg},
		{conf(15, guest(12, 4, 0)), api.ErrArg},
		{conf(65540, guest(0, 0, 0)), api.ErrArg},
		{conf(15, guest(0, 8, 0), guest(0, 8, 0)), api.ErrArg},
		{conf(16, guest(0, 8, 0), guest(4, 8, 0), guest(12, 4, 5)), api.ErrPartition},
		{conf(16, guest(12, 4, 5), guest(0, 8, 0), guest(4, 8, 0)), api.ErrPartition},
		{conf(16, guest(0, 8, 0), guest(12, 4, 5), guest(4, 8, 0)), api.ErrPartition},
		{conf(16, guest(0, 8, 9), guest(4, 8, 0)), api.ErrPartition},
		{conf(16, guest(0, 8, 0), guest(4, 16, 0)), api.ErrPartition},
		{conf(16, guest(0, 8, 0), guest(6, 8, 0)), api.ErrPartition},
		{conf(16, guest(2, 6, 9), guest(2, 6, 9)), api.ErrPartition},
	} {
		if got := Validate(x.c); got != x.want {
			t.Errorf("%d: %d, want %d", n, got, x.want)
		}
	}
}

// P15.1: thrown configurations, one number of a valid one changed or two.
func TestThrown(t *testing.T) {
	d, answers := dice(1), map[api.Errno]int{}
	for range 20000 {
		c := d.valid()
		for range d.roll(3) {
			d.change(&c)
		}
		want := verdict(c)
		expect(t, c, want)
		answers[want]++
	}
	for _, e := range []api.Errno{api.OK, api.ErrArg, api.ErrPartition, api.ErrOverlap} {
		if answers[e] < 100 {
			t.Errorf("the answer %d came %d times", e, answers[e])
		}
	}
}

// change changes one number of the configuration.
func (d *dice) change(c *api.Config) {
	g := &c.Guests[d.roll(len(c.Guests))]
	by := uint32(d.roll(9)-4) * uint32([]int{1, 4, 4, 4}[d.roll(4)])
	switch d.roll(6) {
	case 0:
		c.Size += by
	case 1, 2:
		g.Part.Base += by
	case 3, 4:
		g.Part.Size += by
	case 5:
		g.Mem = noise(1, len(g.Mem)+d.roll(5))
	}
}

// P15.1: the chapter's example and the document's.
func TestExample(t *testing.T) {
	two := []api.Guest{{Part: api.Partition{Base: 0, Size: 8}}, {Part: api.Partition{Base: 4, Size: 8}}}
	for _, size := range []uint32{12, 16, 64, 65536} {
		expect(t, api.Config{Size: size, Guests: two}, api.ErrOverlap)
	}
	if api.ErrOverlap != 6 {
		t.Error("ErrOverlap is not 6")
	}
}

// expectReset holds what a machine has after reset against what it is: the CSRs,
// the time, the console output and the halted flag.
func expectReset(t *testing.T, m api.Machine) {
	t.Helper()
	want := [12]uint32{1, 0, 0, 0, 0, 0, 0, 0, 0, 0xffffffff, 0xffffffff, 0}
	if m.Core.Csr != want || m.Core.Csr != csr.Reset() || m.Time != 0 || len(m.Out) != 0 || m.Halted {
		t.Fatalf("CSRs %v, time %d, output %v, halted: %v", m.Core.Csr, m.Time, m.Out, m.Halted)
	}
}

// P15.2: the memory of the bare guest, with a Mem that is nil, empty, shorter
// than the partition and as long, wherever the partition is.
func TestBareMemory(t *testing.T) {
	for n, x := range []struct {
		size uint32
		mem  []byte
		want []byte
	}{
		{4, nil, []byte{0, 0, 0, 0}},
		{4, []byte{}, []byte{0, 0, 0, 0}},
		{4, []byte{9}, []byte{9, 0, 0, 0}},
		{4, []byte{0, 9}, []byte{0, 9, 0, 0}},
		{4, []byte{1, 2, 3}, []byte{1, 2, 3, 0}},
		{4, []byte{1, 2, 3, 255}, []byte{1, 2, 3, 255}},
		{12, nil, make([]byte, 12)},
		{12, []byte{1, 2, 3, 4, 5}, []byte{1, 2, 3, 4, 5, 0, 0, 0, 0, 0, 0, 0}},
		{12, []byte("abcdefghijk"), []byte("abcdefghijk\x00")},
		{12, []byte("abcdefghijkl"), []byte("abcdefghijkl")},
		{65536, nil, make([]byte, 65536)},
		{65536, noise(1, 65535), append(noise(1, 65535), 0)},
		{65536, noise(1, 65536), noise(1, 65536)},
	} {
		for _, base := range []uint32{0, 4, 100, 65536 - x.size} {
			m := BareGuest(api.Guest{Part: api.Partition{Base: base, Size: x.size}, Mem: spacious(x.mem)})
			if !bytes.Equal(m.Mem, x.want) {
				t.Errorf("%d, at %d: %d bytes that differ", n, base, len(m.Mem))
			}
			expectReset(t, m)
		}
	}
}

// P15.2: the registers of the bare guest, of which register 0 is 0, and its
// program counter.
func TestBareProcessor(t *testing.T) {
	for _, zero := range []uint32{0, 1, 7, 1 << 31, math.MaxUint32} {
		for _, pc := range []uint32{0, 1, 4, 100, 1 << 31, math.MaxUint32} {
			g := guest(8, 8, 5)
			g.Regs[0], g.Pc = zero, pc
			m := BareGuest(g)
			want := g.Regs
			want[0] = 0
			if m.Core.Regs != want || m.Core.Pc != pc {
				t.Errorf("registers %v at %d, want %v at %d", m.Core.Regs, m.Core.Pc, want, pc)
			}
			expectReset(t, m)
		}
	}
	for r := range api.Regs {
		var g api.Guest
		g.Part.Size, g.Regs[r] = 4, math.MaxUint32
		want := g.Regs
		want[0] = 0
		if m := BareGuest(g); m.Core.Regs != want || m.Core.Pc != 0 {
			t.Errorf("registers %v at %d, want %v", m.Core.Regs, m.Core.Pc, want)
		}
	}
}

// P15.2: each part of the bare guest, for the guests of all samples.
func TestBareGuests(t *testing.T) {
	for _, x := range samples() {
		for n, g := range x.c.Guests {
			m := BareGuest(g)
			want := make([]byte, g.Part.Size)
			for a, b := range g.Mem {
				want[a] = b
			}
			regs := g.Regs
			regs[0] = 0
			if !bytes.Equal(m.Mem, want) || m.Core.Regs != regs || m.Core.Pc != g.Pc {
				t.Fatalf("%s, guest %d: the machine has %v in %d bytes", x.name, n, m.Core, len(m.Mem))
			}
			expectReset(t, m)
		}
	}
}

// P15.2: the bare guest is its own alone: it hangs neither on where its partition
// is nor on the other guests.
func TestBareGuestAnywhere(t *testing.T) {
	g := guest(0, 12, 7)
	want := BareGuest(g)
	for _, base := range []uint32{4, 8, 1024, 65524} {
		g.Part.Base = base
		if m := BareGuest(g); m.Core != want.Core || !bytes.Equal(m.Mem, want.Mem) {
			t.Errorf("at %d the machine has %v and %v", base, m.Core, m.Mem)
		}
	}
}

// P15.2: the memory of the host, by hand.
func TestHostByHand(t *testing.T) {
	part := func(base, size uint32, mem string) api.Guest {
		return api.Guest{Part: api.Partition{Base: base, Size: size}, Mem: []byte(mem), Pc: 8, Regs: [16]uint32{3, 4}}
	}
	for _, x := range []struct {
		c    api.Config
		want string
	}{
		{conf(4, part(0, 4, "")), "\x00\x00\x00\x00"},
		{conf(4, part(0, 4, "abcd")), "abcd"},
		{conf(8, part(4, 4, "abcd")), "\x00\x00\x00\x00abcd"},
		{conf(8, part(0, 4, "abc")), "abc\x00\x00\x00\x00\x00"},
		{conf(12, part(4, 4, "ab")), "\x00\x00\x00\x00ab\x00\x00\x00\x00\x00\x00"},
		{conf(12, part(4, 8, "abcde"), part(0, 4, "wxyz")), "wxyzabcde\x00\x00\x00"},
		{conf(24, part(16, 4, "abcd"), part(4, 8, "stuvwxyz")), "\x00\x00\x00\x00stuvwxyz\x00\x00\x00\x00abcd\x00\x00\x00\x00"},
	} {
		if m := HostMachine(x.c); string(m.Mem) != x.want {
			t.Errorf("the memory is %q, want %q", m.Mem, x.want)
		}
	}
}

// P15.2: the host byte by byte, in and outside of the partitions, and the rest of
// its machine.
func TestHost(t *testing.T) {
	for _, x := range samples() {
		m := HostMachine(x.c)
		if uint32(len(m.Mem)) != x.c.Size || m.Core.Regs != [16]uint32{} || m.Core.Pc != 0 {
			t.Fatalf("%s: the machine has %v in %d bytes", x.name, m.Core, len(m.Mem))
		}
		expectReset(t, m)
		for a, b := range m.Mem {
			want := byte(0)
			for _, n := range ownersOf(x.c, a) {
				g := x.c.Guests[n]
				if at := a - int(g.Part.Base); at < len(g.Mem) {
					want = g.Mem[at]
				}
			}
			if b != want {
				t.Fatalf("%s: the byte %d is %d, want %d", x.name, a, b, want)
			}
		}
	}
}

// P15.2: what the host has in a partition is the memory of the bare guest.
func TestHostHoldsBareGuests(t *testing.T) {
	for _, x := range samples() {
		host := HostMachine(x.c).Mem
		for n, g := range x.c.Guests {
			if !bytes.Equal(PartitionBytes(x.c, host, n), BareGuest(g).Mem) {
				t.Errorf("%s: guest %d differs", x.name, n)
			}
		}
	}
}

// P15.2: the bytes of each guest's partition, in a host memory of thrown bytes.
func TestPartitionBytes(t *testing.T) {
	for _, x := range samples() {
		host := spacious(noise(3, int(x.c.Size)))
		for n, g := range x.c.Guests {
			var want []byte
			for a, b := range host {
				if inside(g.Part, a) {
					want = append(want, b)
				}
			}
			if got := PartitionBytes(x.c, host, n); !bytes.Equal(got, want) {
				t.Fatalf("%s, guest %d: %d bytes that differ", x.name, n, len(got))
			}
		}
	}
}

// P15.2: the bytes of partitions, by hand.
func TestPartitionBytesByHand(t *testing.T) {
	c := conf(24, guest(20, 4, 0), guest(0, 4, 0), guest(8, 8, 0), guest(4, 4, 0))
	host := []byte("abcdefghijklmnopqrstuvwx")
	for n, want := range []string{"uvwx", "abcd", "ijklmnop", "efgh"} {
		if got := PartitionBytes(c, host, n); string(got) != want {
			t.Errorf("guest %d has %q, want %q", n, got, want)
		}
	}
}

// P15.3: each byte of the host is in one partition or in none, and is handed out
// with that one alone.
func TestOneOwner(t *testing.T) {
	for _, x := range samples() {
		host := make([]byte, x.c.Size)
		owned := 0
		for a := range host {
			owners := ownersOf(x.c, a)
			if len(owners) > 1 {
				t.Fatalf("%s: the byte %d is in the partitions of %v", x.name, a, owners)
			}
			owned += len(owners)
			if x.c.Size > 4096 && a%509 != 0 {
				continue
			}
			host[a] = 1
			for n := range x.c.Guests {
				if got := bytes.Count(PartitionBytes(x.c, host, n), []byte{1}) == 1; got != slices.Contains(owners, n) {
					t.Fatalf("%s: the byte %d is handed out with guest %d: %v", x.name, a, n, got)
				}
			}
			host[a] = 0
		}
		sum := 0
		for n := range x.c.Guests {
			sum += len(PartitionBytes(x.c, host, n))
		}
		if sum != owned {
			t.Errorf("%s: %d bytes are owned, %d are handed out", x.name, owned, sum)
		}
	}
}

// P15.3: a guest's Mem changes bytes of its own partition alone.
func TestMemStaysInside(t *testing.T) {
	for _, x := range samples() {
		before := HostMachine(x.c).Mem
		for n, g := range x.c.Guests {
			c := conf(x.c.Size, x.c.Guests...)
			c.Guests[n].Mem = noise(77+n, int(g.Part.Size))
			for a, b := range HostMachine(c).Mem {
				if b != before[a] && !inside(g.Part, a) {
					t.Fatalf("%s: guest %d changes the byte %d", x.name, n, a)
				}
			}
		}
	}
}

// P15.3: whatever Validate accepts gives no byte to two guests.
func TestAcceptedHaveOneOwner(t *testing.T) {
	d, accepted := dice(3), 0
	for range 5000 {
		c := d.valid()
		d.change(&c)
		if Validate(c) != api.OK {
			continue
		}
		accepted++
		for a := range int(c.Size) {
			if owners := ownersOf(c, a); len(owners) > 1 {
				t.Fatalf("of %v, the byte %d is in the partitions of %v", parts(c), a, owners)
			}
		}
	}
	if accepted < 500 {
		t.Errorf("%d were accepted", accepted)
	}
}

// overwrite changes every byte.
func overwrite(b []byte) {
	for n := range b {
		b[n] ^= 0x5a
	}
}

// result is a result of a call as its slices, with the call that gives it again.
type result struct {
	name   string
	slices func() [][]byte
}

// results returns the calls with that configuration and host memory.
func results(c api.Config, host []byte) []result {
	machine := func(m api.Machine) [][]byte { return [][]byte{m.Mem, m.Out} }
	l := []result{
		{"Validate", func() [][]byte { Validate(c); return nil }},
		{"HostMachine", func() [][]byte { return machine(HostMachine(c)) }},
	}
	for n, g := range c.Guests {
		l = append(l,
			result{"BareGuest", func() [][]byte { return machine(BareGuest(g)) }},
			result{"PartitionBytes", func() [][]byte { return [][]byte{PartitionBytes(c, host, n)} }})
	}
	return l
}

// eachResult runs the test for each call with each sample.
func eachResult(t *testing.T, f func(t *testing.T, r result, unchanged func() bool)) {
	for _, x := range samples() {
		host := spacious(noise(5, int(x.c.Size)))
		before := copyOf(x.c, host)
		t.Run(x.name, func(t *testing.T) {
			for _, r := range results(x.c, host) {
				f(t, r, func() bool { return before.is(x.c, host) })
			}
		})
	}
}

// P15.4: no call changes its arguments, nor what lies behind them in their
// arrays.
func TestArgumentsAreLeftAlone(t *testing.T) {
	eachResult(t, func(t *testing.T, r result, unchanged func() bool) {
		if r.slices(); !unchanged() {
			t.Fatalf("%s changes its argument", r.name)
		}
	})
}

// P15.4: whoever overwrites a result, appends to it or writes behind it does not
// reach the arguments.
func TestResultsAreFresh(t *testing.T) {
	eachResult(t, func(t *testing.T, r result, unchanged func() bool) {
		for _, b := range r.slices() {
			if overwrite(b); !unchanged() {
				t.Fatalf("a result of %s shares memory with its argument", r.name)
			}
			if longer := append(b, 0x77); !unchanged() || len(longer) != len(b)+1 {
				t.Fatalf("a result of %s shares what is behind it with its argument", r.name)
			}
			if overwrite(b[:cap(b)]); !unchanged() {
				t.Fatalf("a result of %s shares its array with its argument", r.name)
			}
		}
	})
}

// P15.4: whoever overwrites a result of a call or appends to it does not reach
// another result of the same call.
func TestResultsAreApart(t *testing.T) {
	eachResult(t, func(t *testing.T, r result, _ func() bool) {
		first, second := r.slices(), r.slices()
		for n, b := range first {
			want := bytes.Clone(second[n][:cap(second[n])])
			overwrite(b)
			if longer := append(b, 0x77); len(longer) != len(b)+1 || !bytes.Equal(second[n][:cap(second[n])], want) {
				t.Fatalf("two results of %s share memory", r.name)
			}
		}
		for n, b := range r.slices() {
			if !bytes.Equal(b, second[n]) {
				t.Fatalf("a third result of %s differs from the second", r.name)
			}
		}
	})
}

// P15.4: results of different calls with one argument do not change with each
// other.
func TestDifferentResultsAreApart(t *testing.T) {
	c := row(3)
	host := HostMachine(c)
	bare, part := BareGuest(c.Guests[1]), PartitionBytes(c, host.Mem, 1)
	want := bytes.Clone(bare.Mem)
	overwrite(host.Mem)
	if !bytes.Equal(part, want) || !bytes.Equal(bare.Mem, want) {
		t.Error("they share memory with the host")
	}
	overwrite(part)
	if !bytes.Equal(bare.Mem, want) {
		t.Error("the bare guest shares memory with the bytes of the partition")
	}
	if again := PartitionBytes(c, HostMachine(c).Mem, 1); !bytes.Equal(again, want) {
		t.Error("a host machine remembers another one")
	}
}

// P15.4: nil lists are as empty ones.
func TestNilIsEmpty(t *testing.T) {
	c := row(2)
	for n := range c.Guests {
		c.Guests[n].Mem = nil
	}
	d := conf(c.Size, c.Guests...)
	for n := range d.Guests {
		d.Guests[n].Mem = []byte{}
	}
	if Validate(c) != api.OK || Validate(d) != api.OK || !bytes.Equal(HostMachine(c).Mem, HostMachine(d).Mem) || !bytes.Equal(BareGuest(c.Guests[1]).Mem, BareGuest(d.Guests[1]).Mem) {
		t.Error("they differ")
	}
}

// What the chapter leaves open, invalid configurations and guests, other host
// memories and indices, ends without a panic and leaves the arguments alone.
func TestInvalidArgumentsEnd(t *testing.T) {
	l := []api.Config{{}, conf(65540), conf(math.MaxUint32), conf(7, guest(1, 2, 3)), conf(16, guest(0, math.MaxUint32, 4), guest(math.MaxUint32, math.MaxUint32, 5)), row(17)}
	for _, f := range faults() {
		l = append(l, spoilt(3, f, 0, 2))
	}
	for _, c := range l {
		for _, host := range [][]byte{nil, noise(1, 1), spoiltHost(c), spacious(noise(1, 2000))} {
			before := copyOf(c, host)
			HostMachine(c)
			for _, n := range []int{math.MinInt, -1, 0, 1, 2, len(c.Guests) - 1, len(c.Guests), len(c.Guests) + 1, 16, math.MaxInt} {
				PartitionBytes(c, host, n)
			}
			for _, g := range c.Guests {
				BareGuest(g)
			}
			if !before.is(c, host) {
				t.Errorf("the calls with %v change their arguments", parts(c))
			}
		}
	}
}

// spoiltHost returns a host memory a byte shorter than the configuration says.
func spoiltHost(c api.Config) []byte {
	return spacious(noise(2, int(min(max(c.Size, 1)-1, api.MaxMem))))
}
