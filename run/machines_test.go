package run

import (
	"encoding/binary"
	"math"
	"testing"

	"gaoler/api"
	"gaoler/asm"
	"gaoler/csr"
	"gaoler/isa"
	"gaoler/step"
)

// This file holds the machines that the tests run, and what calls of Step make
// of them.

const (
	size  = 64  // bytes of memory of most machines here
	spare = 16  // capacity behind the slices of a machine
	now   = 100 // the time before the first step
	far   = 60  // how many steps of a machine are held against calls of Step
	never = math.MaxInt
)

const haltWord = 0x60000000

// none is the absence of a trap.
var none = api.Trap{}

// spacious returns a copy of b with spare capacity that isn't empty.
func spacious(b []byte) []byte {
	room := make([]byte, len(b)+spare)
	for i := range room {
		room[i] = byte(0xc0 + i)
	}
	copy(room, b)
	return room[:len(b)]
}

// laid returns memory with the words from address 0 on, and zeros behind.
func laid(words []uint32) []byte {
	b := make([]byte, size)
	for n, w := range words {
		binary.LittleEndian.PutUint32(b[4*n:], w)
	}
	return spacious(b)
}

// loaded returns a machine in supervisor mode at the start of the program, with
// something in its console output.
func loaded(t *testing.T, text string) api.Machine {
	t.Helper()
	words, errno, line := asm.Assemble(text)
	if errno != api.OK {
		t.Fatalf("line %d of %q is none", line, text)
	}
	m := api.Machine{Mem: laid(words), Out: spacious([]byte("abc")), Time: now}
	m.Core.Csr = csr.Reset()
	return m
}

// traveller is a machine, with what is known by hand of its way: the number of
// steps that it performs until it is halted, or never, and the traps of the
// first far steps by the number of the step, from 1.
type traveller struct {
	name  string
	text  string
	set   func(m *api.Machine)
	ends  int
	traps map[int]api.Trap
}

func (x traveller) machine(t *testing.T) api.Machine {
	t.Helper()
	m := loaded(t, x.text)
	if x.set != nil {
		x.set(&m)
	}
	return m
}

// performed is how many of n steps are performed.
func (x traveller) performed(n int) int { return max(0, min(n, x.ends)) }

// entered is what is entered in n steps.
func (x traveller) entered(n int) []api.Trap {
	var l []api.Trap
	for at := 1; at <= x.performed(n); at++ {
		if t, ok := x.traps[at]; ok {
			l = append(l, t)
		}
	}
	return l
}

// repeated holds the trap at the step first and at each one that many further
// on.
func repeated(t api.Trap, first, by int) map[int]api.Trap {
	m := map[int]api.Trap{}
	for at := first; at <= far; at += by {
		m[at] = t
	}
	return m
}

// with adds the second traps to the first.
func with(m, more map[int]api.Trap) map[int]api.Trap {
	for at, t := range more {
		m[at] = t
	}
	return m
}

const (
	counting = "addi r1 r1 1\njal r0 -1\n"

	// nine times, it stores a byte and puts it out
	writing = "addi r1 r1 1\nsb r1 r1 40\nout r1\naddi r2 r0 9\nblt r1 r2 -4\nhalt\n"

	// from supervisor mode to the 16 bytes at 16, where it counts in memory
	descending = "addi r1 r0 16\ncsrw c5 r1\ncsrw c6 r1\neret\naddi r2 r2 7\nsw r2 r0 12\njal r0 -2\n"

	// one instruction that traps behind the other in user mode; at 24, the
	// handler skips it
	stumbling = "word 00000000\nhalt\nlb r2 r0 64\nsw r2 r0 2\necall\njal r0 0\ncsrr r1 c1\naddi r1 r1 4\ncsrw c1 r1\neret\n"
)

// travellers returns the machines: those that are halted, that halt, and that
// never do; with no trap, with one, with some and with one in every step.
func travellers() []traveller {
	return []traveller{
		{name: "halted", text: counting, set: func(m *api.Machine) { m.Halted = true }},
		{name: "halted at an illegal word", set: func(m *api.Machine) { m.Halted = true }},
		{name: "halted with a pending interrupt", text: counting, set: func(m *api.Machine) {
			m.Halted = true
			m.Core.Csr[api.Status], m.Core.Csr[api.Cmp], m.Core.Csr[api.Cmph] = 3, 0, 0
		}},
		{name: "halts first", text: "halt\n", ends: 1},
		{name: "halts second", text: "out r0\nhalt\n", ends: 2},
		{name: "halts third", text: "addi r1 r1 65\nout r1\nhalt\n", ends: 3},
		{name: "counts", text: counting, ends: never},
		{name: "stands still", text: "jal r0 0\n", ends: never},
		{name: "writes", text: writing, ends: 46},
		{name: "writes back", text: "sb r3 r0 40\nsb r0 r0 40\njal r0 -2\n", set: func(m *api.Machine) { m.Core.Regs[3] = 7 }, ends: never},
		{name: "user mode", text: descending, ends: never},
		{name: "calls once", text: "addi r1 r1 1\necall\nhalt\n", set: func(m *api.Machine) { m.Core.Csr[api.Tvec] = 8 }, ends: 3,
			traps: map[int]api.Trap{2: {Cause: api.Called}}},
		{name: "may not halt first", text: "halt\n", set: func(m *api.Machine) { m.Core.Csr[api.Status], m.Core.Csr[api.Bound] = 0, 4 }, ends: 2,
			traps: map[int]api.Trap{1: {Cause: api.Privileged, Tval: haltWord}}},
		{name: "interrupted first", text: counting + "halt\n", set: func(m *api.Machine) {
			c := &m.Core.Csr
			c[api.Status], c[api.Tvec], c[api.Cmp], c[api.Cmph] = 3, 8, now, 0
		}, ends: 2, traps: map[int]api.Trap{1: {Cause: api.Timer}}},
		{name: "calls always", text: "ecall\n", ends: never, traps: repeated(api.Trap{Cause: api.Called}, 1, 1)},
		{name: "illegal always", text: "word ffffffff\n", ends: never, traps: repeated(api.Trap{Cause: api.Illegal, Tval: math.MaxUint32}, 1, 1)},
		{name: "outside always", set: func(m *api.Machine) { m.Core.Pc, m.Core.Csr[api.Tvec] = 68, 64 }, ends: never,
			traps: with(repeated(api.Trap{Cause: api.Access, Tval: 64}, 1, 1), map[int]api.Trap{1: {Cause: api.Access, Tval: 68}})},
		{name: "misaligned always", set: func(m *api.Machine) { m.Core.Pc, m.Core.Csr[api.Tvec] = 6, 2 }, ends: never,
			traps: with(repeated(api.Trap{Cause: api.Misaligned, Tval: 2}, 1, 1), map[int]api.Trap{1: {Cause: api.Misaligned, Tval: 6}})},
		{name: "no memory", set: func(m *api.Machine) { m.Mem, m.Out = nil, nil }, ends: never, traps: repeated(api.Trap{Cause: api.Access}, 1, 1)},
		{name: "misaligned every other time", text: "jalr r0 r0 1\n", ends: never, traps: repeated(api.Trap{Cause: api.Misaligned, Tval: 1}, 2, 2)},
		{name: "interrupted every other time", text: "eret\n", set: func(m *api.Machine) {
			m.Core.Csr[api.Status], m.Core.Csr[api.Cmp], m.Core.Csr[api.Cmph] = 3, 0, 0
		}, ends: never, traps: repeated(api.Trap{Cause: api.Timer}, 1, 2)},
		{name: "interrupted as the time wraps", text: counting, set: func(m *api.Machine) {
			m.Time, m.Core.Csr[api.Status], m.Core.Csr[api.Tvec] = math.MaxUint64-2, 3, 4
		}, ends: never, traps: map[int]api.Trap{3: {Cause: api.Timer}}},
		stumbler(),
	}
}

// stumbler enters each trap there is. The handler takes four steps. The timer is
// due once the machine has stood still for two steps, and then each time that
// the handler is done.
func stumbler() traveller {
	return traveller{name: "each cause", text: stumbling, set: func(m *api.Machine) {
		c := &m.Core.Csr
		c[api.Status], c[api.Bound], c[api.Tvec], c[api.Cmp], c[api.Cmph] = 2, size, 24, now+27, 0
	}, ends: never, traps: with(repeated(api.Trap{Cause: api.Timer}, 28, 5), map[int]api.Trap{
		1:  {Cause: api.Illegal},
		6:  {Cause: api.Privileged, Tval: haltWord},
		11: {Cause: api.Access, Tval: 64},
		16: {Cause: api.Misaligned, Tval: 2},
		21: {Cause: api.Called},
	})}
}

// journey is what calls of Step make of a machine, far of them or as many as
// halt it: the machine before the first and after each, and the trap of each.
type journey struct {
	machines []api.Machine
	traps    []api.Trap
}

func journeyOf(m api.Machine) journey {
	j := journey{machines: []api.Machine{m}}
	for len(j.traps) < far && !m.Halted {
		var trap api.Trap
		m, trap = step.Step(m)
		j.machines, j.traps = append(j.machines, m), append(j.traps, trap)
	}
	return j
}

func (j journey) halts() bool { return j.machines[len(j.traps)].Halted }

// performed is how many of n steps are performed.
func (j journey) performed(n int) int { return max(0, min(n, len(j.traps))) }

// entered is what is entered in n steps.
func (j journey) entered(n int) []api.Trap {
	var l []api.Trap
	for _, t := range j.traps[:j.performed(n)] {
		if t.Cause != 0 {
			l = append(l, t)
		}
	}
	return l
}

// met is how many of n steps lead to the program counter, and whether they do.
func (j journey) met(n int, pc uint32) (int, bool) {
	for at, m := range j.machines[:j.performed(n)+1] {
		if m.Core.Pc == pc {
			return at, true
		}
	}
	return j.performed(n), false
}

// counts returns numbers of steps: all those of the journey with what is around,
// negative ones, and if the machine halts great ones.
func (j journey) counts() []int {
	l := []int{math.MinInt, math.MinInt32, -far, -2, -1}
	for n := range len(j.traps) + 1 {
		l = append(l, n)
	}
	if j.halts() {
		l = append(l, len(j.traps)+1, len(j.traps)+2, 2*far, math.MaxInt32, math.MaxInt-1, math.MaxInt)
	}
	return l
}

// programCounters returns each one of the journey, with its neighbors and what
// differs from it in high bits alone.
func (j journey) programCounters() []uint32 {
	seen, l := map[uint32]bool{}, []uint32(nil)
	for _, m := range j.machines {
		for _, pc := range []uint32{m.Core.Pc, m.Core.Pc + 1, m.Core.Pc - 4, m.Core.Pc + 4, m.Core.Pc ^ 1<<31, m.Core.Pc ^ 1<<16} {
			if !seen[pc] {
				seen[pc] = true
				l = append(l, pc)
			}
		}
	}
	return l
}

// dice gives numbers that look thrown, the same ones each time.
type dice uint64

// roll returns a number below n.
func (d *dice) roll(n int) int {
	*d = *d*6364136223846793005 + 1442695040888963407
	return int(uint64(*d) >> 33 % uint64(n))
}

// word returns the word of an instruction with small immediates, seldom Halt,
// and seldom that of none.
func (d *dice) word() uint32 {
	if d.roll(40) == 0 {
		return uint32(d.roll(math.MaxInt32))
	}
	op, csr := d.roll(api.Ops)+1, int32(d.roll(api.Csrs))
	if op == api.Halt && d.roll(3) != 0 {
		return d.word()
	}
	i := map[int]api.Instr{
		api.FormR: {Rd: d.roll(4), Ra: d.roll(4), Rb: d.roll(4)},
		api.FormI: {Rd: d.roll(4), Ra: d.roll(4), Imm: int32(d.roll(48) - 12)},
		api.FormU: {Rd: d.roll(4), Imm: int32(d.roll(12) - 4)},
		api.FormN: {},
		api.FormC: {Rd: d.roll(4), Imm: csr},
		api.FormW: {Ra: d.roll(4), Imm: csr},
		api.FormA: {Ra: d.roll(4)},
	}[isa.FormatOf(op)]
	i.Op = op
	w, _ := isa.Encode(i)
	return w
}

// machine returns one with a thrown program, whose trap vector is inside of it,
// and with a timer that is soon due.
func (d *dice) machine() api.Machine {
	words := make([]uint32, size/api.WordSize)
	for n := range words {
		words[n] = d.word()
	}
	m := api.Machine{Mem: laid(words), Out: spacious(nil), Time: uint64(d.roll(4)) - 2}
	for r := range m.Core.Regs {
		m.Core.Regs[r] = uint32(4 * d.roll(size/4))
	}
	c := &m.Core.Csr
	c[api.Status], c[api.Epc], c[api.Tvec] = uint32(d.roll(16)), uint32(4*d.roll(8)), uint32(4*d.roll(size/4))
	c[api.Base], c[api.Bound], c[api.Cmp] = uint32(4*d.roll(8)), uint32(16+d.roll(48)), uint32(d.roll(50))
	return m
}
