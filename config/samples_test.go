package config

import (
	"bytes"
	"slices"

	"gaoler/api"
)

// dice gives numbers that look thrown, the same ones each time.
type dice uint64

// roll returns a number below n.
func (d *dice) roll(n int) int {
	*d = *d*6364136223846793005 + 1442695040888963407
	return int(uint64(*d) >> 33 % uint64(n))
}

// noise returns n bytes that look thrown, none of them zero.
func noise(seed, n int) []byte {
	d, b := dice(seed), make([]byte, n)
	for i := range b {
		b[i] = byte(1 + d.roll(255))
	}
	return b
}

// spacious returns a copy of b with other bytes behind it, in its capacity.
func spacious(b []byte) []byte {
	return append(bytes.Clone(b), noise(len(b)+1, 9)...)[:len(b)]
}

// guest returns one with that partition and n bytes of Mem.
func guest(base, size uint32, n int) api.Guest {
	g := api.Guest{Part: api.Partition{Base: base, Size: size}, Mem: spacious(noise(int(base)^n, n)), Pc: base ^ 0x1234567}
	for r := range g.Regs {
		g.Regs[r] = uint32(r+1)*0x01010101 ^ base
	}
	return g
}

// conf returns a configuration with those guests, and with one behind them in
// the capacity of the list that none may see.
func conf(size uint32, guests ...api.Guest) api.Config {
	hidden := guest(0, 4, 4)
	return api.Config{Size: size, Guests: append(slices.Clone(guests), hidden, hidden)[:len(guests)]}
}

// slot is what each guest of row has around its partition: a word before it and
// one behind it belong to nobody.
const slot = 16

// row returns a valid configuration of n guests with two words each, and with a
// slot for nobody at either end.
func row(n int) api.Config {
	var l []api.Guest
	for k := range n {
		l = append(l, guest(uint32(slot*(k+1)+4), 8, 5))
	}
	return conf(uint32(slot*(n+2)), l...)
}

// sample is a valid configuration with a name.
type sample struct {
	name string
	c    api.Config
}

// samples returns valid configurations of all kinds.
func samples() []sample {
	l := []sample{
		{"the smallest", conf(4, guest(0, 4, 0))},
		{"the smallest, full", conf(4, guest(0, 4, 4))},
		{"one in the middle", conf(24, guest(8, 8, 3))},
		{"one at the end", conf(24, guest(16, 8, 7))},
		{"two that touch", conf(16, guest(0, 8, 8), guest(8, 8, 8))},
		{"two that touch, the later first", conf(16, guest(8, 8, 8), guest(0, 8, 1))},
		{"gaps, in no order", conf(44, guest(28, 12, 12), guest(4, 4, 4), guest(12, 8, 0), guest(20, 4, 3))},
		{"16 in a row", row(16)},
		{"one on the greatest host", conf(api.MaxMem, guest(0, api.MaxMem, 5000))},
		{"one full on the greatest host", conf(api.MaxMem, guest(0, api.MaxMem, api.MaxMem))},
		{"the last word of the greatest host", conf(api.MaxMem, guest(api.MaxMem-4, 4, 4))},
	}
	var touching, backward []api.Guest
	for k := range api.MaxGuests {
		touching = append(touching, guest(uint32(4096*k), 4096, 4096-k))
		backward = append(backward, guest(uint32(4*(15-k)), 4, k%5))
	}
	l = append(l, sample{"16 that fill the greatest host", conf(api.MaxMem, touching...)}, sample{"16 words, the last first", conf(64, backward...)})
	d := dice(15)
	for range 200 {
		l = append(l, sample{"thrown", d.valid()})
	}
	return l
}

// valid returns a valid configuration, put together from words that belong to
// this guest or that, or to nobody.
func (d *dice) valid() api.Config {
	var l []api.Guest
	at := 4 * d.roll(3)
	for range 1 + d.roll(api.MaxGuests) {
		size := 4 * (1 + d.roll(6))
		l = append(l, guest(uint32(at), uint32(size), d.roll(size+1)))
		at += size + max(0, 4*(d.roll(5)-2))
	}
	for n := range l {
		k := d.roll(n + 1)
		l[n], l[k] = l[k], l[n]
	}
	return conf(uint32(at), l...)
}

// copied is a configuration and a host memory with copies of their slices as far
// as the capacity goes.
type copied struct {
	c      api.Config
	guests []api.Guest
	mems   [][]byte
	host   []byte
}

func copyOf(c api.Config, host []byte) copied {
	o := copied{c: c, guests: slices.Clone(c.Guests[:cap(c.Guests)]), host: bytes.Clone(host[:cap(host)])}
	for _, g := range o.guests {
		o.mems = append(o.mems, bytes.Clone(g.Mem[:cap(g.Mem)]))
	}
	return o
}

// is reports whether configuration and host memory are still what was copied.
func (o copied) is(c api.Config, host []byte) bool {
	if c.Size != o.c.Size || len(c.Guests) != len(o.c.Guests) || !bytes.Equal(host[:cap(host)], o.host) {
		return false
	}
	for n, g := range c.Guests[:cap(c.Guests)] {
		p := o.guests[n]
		if g.Part != p.Part || g.Regs != p.Regs || g.Pc != p.Pc || len(g.Mem) != len(p.Mem) || !bytes.Equal(g.Mem[:cap(g.Mem)], o.mems[n]) {
			return false
		}
	}
	return true
}

// inside reports whether the address is one of the partition.
func inside(p api.Partition, a int) bool {
	return int64(p.Base) <= int64(a) && int64(a) < int64(p.Base)+int64(p.Size)
}

// ownersOf returns the indices of the guests whose partition has the address.
func ownersOf(c api.Config, a int) []int {
	var l []int
	for n, g := range c.Guests {
		if inside(g.Part, a) {
			l = append(l, n)
		}
	}
	return l
}

// verdict is what the chapter says of a configuration, found byte by byte.
func verdict(c api.Config) api.Errno {
	if len(c.Guests) < 1 || len(c.Guests) > 16 {
		return api.ErrGuestCount
	}
	if c.Size&3 != 0 || c.Size > 65536 {
		return api.ErrArg
	}
	for _, g := range c.Guests {
		base, size := int64(g.Part.Base), int64(g.Part.Size)
		if base&3 != 0 || size&3 != 0 || size == 0 || base+size > int64(c.Size) || int64(len(g.Mem)) > size {
			return api.ErrPartition
		}
	}
	for a := range int(c.Size) {
		if len(ownersOf(c, a)) > 1 {
			return api.ErrOverlap
		}
	}
	return api.OK
}
