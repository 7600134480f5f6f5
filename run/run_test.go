package run

import (
	"bytes"
	"math"
	"slices"
	"testing"

	"gaoler/api"
	"gaoler/step"
)

// same reports whether two machines are equal in every part.
func same(m, p api.Machine) bool {
	return m.Core == p.Core && bytes.Equal(m.Mem, p.Mem) && m.Time == p.Time && bytes.Equal(m.Out, p.Out) && m.Halted == p.Halted
}

// expectRun holds Run of m against the machine and the number of steps.
func expectRun(t *testing.T, m api.Machine, n int, want api.Machine, steps int) {
	t.Helper()
	if got, done := Run(m, n); !same(got, want) || done != steps {
		t.Fatalf("%d steps of %v\ngive %v, %d\nwant %v, %d", n, m, got, done, want, steps)
	}
}

// expectTraps holds Traps of m against the list.
func expectTraps(t *testing.T, m api.Machine, n int, want []api.Trap) {
	t.Helper()
	if got := Traps(m, n); !slices.Equal(got, want) {
		t.Fatalf("%d steps of %v\nenter %v\nwant  %v", n, m, got, want)
	}
}

// expectUntil holds RunUntil of m against the machine, the number of steps and
// the answer.
func expectUntil(t *testing.T, m api.Machine, n int, pc uint32, want api.Machine, steps int, met bool) {
	t.Helper()
	if got, done, ok := RunUntil(m, n, pc); !same(got, want) || done != steps || ok != met {
		t.Fatalf("%d steps of %v until %d\ngive %v, %d, %v\nwant %v, %d, %v", n, m, pc, got, done, ok, want, steps, met)
	}
}

// eachTraveller runs the test for each machine by its name.
func eachTraveller(t *testing.T, f func(t *testing.T, x traveller, m api.Machine)) {
	for _, x := range travellers() {
		t.Run(x.name, func(t *testing.T) { f(t, x, x.machine(t)) })
	}
}

// P14.1: Run and Traps against Step called again and again, with each number of
// steps.
func TestAgainstStep(t *testing.T) {
	eachTraveller(t, func(t *testing.T, x traveller, m api.Machine) {
		j := journeyOf(m)
		for _, n := range j.counts() {
			steps := j.performed(n)
			expectRun(t, m, n, j.machines[steps], steps)
			expectTraps(t, m, n, j.entered(n))
		}
	})
}

// P14.1, P14.3: the number of steps performed, the traps, the time and the
// halted flag, by hand.
func TestByHand(t *testing.T) {
	eachTraveller(t, func(t *testing.T, x traveller, m api.Machine) {
		for _, n := range journeyOf(m).counts() {
			steps := x.performed(n)
			got, done := Run(m, n)
			if done != steps || got.Time != m.Time+uint64(steps) || got.Halted != (steps == x.ends) {
				t.Fatalf("%d steps are %d, from the time %d to %d, halted: %v; want %d", n, done, m.Time, got.Time, got.Halted, steps)
			}
			expectTraps(t, m, n, x.entered(n))
		}
	})
}

// P14.1: among the machines are halted ones, some that halt after a few steps,
// some that never do, some without a trap, with one, and with one in every step,
// and each cause.
func TestTravellersCover(t *testing.T) {
	ends, entered, causes, always := map[int]bool{}, map[int]bool{}, map[int]bool{}, 0
	eachTraveller(t, func(t *testing.T, x traveller, m api.Machine) {
		l := Traps(m, far)
		ends[x.ends], entered[len(l)] = true, true
		if len(l) > 0 && len(l) == x.performed(far) {
			always++
		}
		for _, trap := range l {
			causes[trap.Cause] = true
		}
	})
	for _, n := range []int{0, 1, 2, 3, 46, never} {
		if !ends[n] {
			t.Errorf("no machine halts after %d steps", n)
		}
	}
	for cause := 1; cause <= api.Causes; cause++ {
		if !causes[cause] {
			t.Errorf("no machine enters the cause %d", cause)
		}
	}
	if !entered[0] || !entered[1] || always == 0 || causes[0] {
		t.Errorf("numbers of traps: %v, in every step: %d, causes: %v", entered, always, causes)
	}
}

// P14.1: what programs leave behind, by hand.
func TestResultsByHand(t *testing.T) {
	for _, x := range []struct {
		text   string
		n      int
		steps  int
		pc     uint32
		r1     uint32
		out    string
		halted bool
	}{
		{counting, -1, 0, 0, 0, "abc", false},
		{counting, 0, 0, 0, 0, "abc", false},
		{counting, 1, 1, 4, 1, "abc", false},
		{counting, 2, 2, 0, 1, "abc", false},
		{counting, 7, 7, 4, 4, "abc", false},
		{counting, 100001, 100001, 4, 50001, "abc", false},
		{"addi r1 r0 65\nout r1\nhalt\n", 1, 1, 4, 65, "abc", false},
		{"addi r1 r0 65\nout r1\nhalt\n", 2, 2, 8, 65, "abcA", false},
		{"addi r1 r0 65\nout r1\nhalt\n", 3, 3, 12, 65, "abcA", true},
		{"addi r1 r0 65\nout r1\nhalt\n", 4, 3, 12, 65, "abcA", true},
		{"addi r1 r0 65\nout r1\nhalt\n", math.MaxInt, 3, 12, 65, "abcA", true},
		{writing, 5, 5, 0, 1, "abc\x01", false},
		{writing, 45, 45, 20, 9, "abc\x01\x02\x03\x04\x05\x06\x07\x08\x09", false},
		{writing, 46, 46, 24, 9, "abc\x01\x02\x03\x04\x05\x06\x07\x08\x09", true},
		{writing, 47, 46, 24, 9, "abc\x01\x02\x03\x04\x05\x06\x07\x08\x09", true},
	} {
		m, steps := Run(loaded(t, x.text), x.n)
		if steps != x.steps || m.Core.Pc != x.pc || m.Core.Regs[1] != x.r1 || string(m.Out) != x.out || m.Halted != x.halted || m.Time != now+uint64(x.steps) {
			t.Errorf("%d steps of %q lead to %v, %d", x.n, x.text, m, steps)
		}
	}
	m, _ := Run(loaded(t, writing), far)
	if want := []byte{0, 1, 2, 3, 4, 5, 6, 7, 8, 9, 0}; !bytes.Equal(m.Mem[40:51], want) {
		t.Errorf("the bytes stored are %v, want %v", m.Mem[40:51], want)
	}
}

// P14.1: the traps of many steps, with one in every step and one in every other.
func TestManyTraps(t *testing.T) {
	const many = 100001
	for _, x := range []struct {
		text string
		trap api.Trap
		want int
	}{
		{counting, none, 0},
		{"ecall\n", api.Trap{Cause: api.Called}, many},
		{"jalr r0 r0 1\n", api.Trap{Cause: api.Misaligned, Tval: 1}, many / 2},
	} {
		l := Traps(loaded(t, x.text), many)
		if len(l) != x.want {
			t.Errorf("%d steps of %q enter %d traps, want %d", many, x.text, len(l), x.want)
		}
		for n, trap := range l {
			if trap != x.trap {
				t.Fatalf("the trap %d of %q is %v, want %v", n, x.text, trap, x.trap)
			}
		}
	}
}

// P14.1, P14.2: thrown programs against Step called again and again.
func TestThrownPrograms(t *testing.T) {
	d, halts, causes := dice(14), 0, map[int]int{}
	for range 1000 {
		m := d.machine()
		j := journeyOf(m)
		if j.halts() {
			halts++
		}
		for _, n := range []int{-1, 0, 1, d.roll(far), len(j.traps) - 1, len(j.traps)} {
			steps := j.performed(n)
			expectRun(t, m, n, j.machines[steps], steps)
			expectTraps(t, m, n, j.entered(n))
			for _, pc := range []uint32{m.Core.Pc, uint32(4 * d.roll(size/4)), j.machines[steps].Core.Pc, 1} {
				at, met := j.met(n, pc)
				expectUntil(t, m, n, pc, j.machines[at], at, met)
			}
		}
		for _, trap := range Traps(m, far) {
			causes[trap.Cause]++
		}
	}
	for cause := 1; cause <= api.Causes; cause++ {
		if causes[cause] == 0 {
			t.Errorf("no thrown program entered the cause %d", cause)
		}
	}
	if halts == 0 || halts == 1000 {
		t.Errorf("%d thrown programs halted", halts)
	}
}

// P14.2: RunUntil against Step called again and again, with each number of steps
// and each program counter that is met and others.
func TestUntilAgainstStep(t *testing.T) {
	eachTraveller(t, func(t *testing.T, x traveller, m api.Machine) {
		j := journeyOf(m)
		for _, pc := range j.programCounters() {
			for _, n := range j.counts() {
				at, met := j.met(n, pc)
				expectUntil(t, m, n, pc, j.machines[at], at, met)
			}
		}
	})
}

// turning is at 0, and after its steps at 4, 8, 4, 8, 4, 8, 12 and 16, where it
// is halted.
const turning = "addi r1 r0 3\naddi r1 r1 -1\nbne r1 r0 -1\nhalt\n"

// P14.2: the program counter is met before the first step, after the first, in
// the middle, after the last and never, once and several times, by hand.
func TestUntilByHand(t *testing.T) {
	for _, x := range []struct {
		n     int
		pc    uint32
		steps int
		met   bool
		r1    uint32
	}{
		// before the first step
		{8, 0, 0, true, 0}, {1, 0, 0, true, 0}, {0, 0, 0, true, 0}, {-1, 0, 0, true, 0}, {math.MinInt, 0, 0, true, 0}, {math.MaxInt, 0, 0, true, 0},
		// after the first, though also after the third and the fifth
		{8, 4, 1, true, 3}, {3, 4, 1, true, 3}, {1, 4, 1, true, 3}, {0, 4, 0, false, 0}, {-1, 4, 0, false, 0},
		// after the second, though also after the fourth and the sixth
		{8, 8, 2, true, 2}, {2, 8, 2, true, 2}, {1, 8, 1, false, 3}, {0, 8, 0, false, 0},
		// after the last but one, where the next step halts
		{math.MaxInt, 12, 7, true, 0}, {8, 12, 7, true, 0}, {7, 12, 7, true, 0}, {6, 12, 6, false, 0},
		// after the last, which halts
		{math.MaxInt, 16, 8, true, 0}, {8, 16, 8, true, 0}, {7, 16, 7, false, 0}, {4, 16, 4, false, 1}, {-8, 16, 0, false, 0},
		// never: it halts before, or the steps are over
		{math.MaxInt, 20, 8, false, 0}, {9, 20, 8, false, 0}, {8, 20, 8, false, 0}, {5, 20, 5, false, 1}, {0, 20, 0, false, 0}, {-1, 20, 0, false, 0},
		{8, 6, 8, false, 0}, {8, 1<<31 + 4, 8, false, 0}, {8, math.MaxUint32, 8, false, 0},
	} {
		m, steps, met := RunUntil(loaded(t, turning), x.n, x.pc)
		if steps != x.steps || met != x.met || m.Core.Regs[1] != x.r1 || m.Time != now+uint64(x.steps) || m.Halted != (steps == 8) || met != (m.Core.Pc == x.pc) {
			t.Errorf("%d steps until %d give %v, %d, %v", x.n, x.pc, m, steps, met)
		}
	}
}

// P14.2: a halted machine meets the program counter that it has, and no other.
func TestUntilHalted(t *testing.T) {
	m := loaded(t, counting)
	m.Halted, m.Core.Pc = true, 4
	for _, n := range []int{math.MinInt, -1, 0, 1, 2, far, math.MaxInt} {
		expectUntil(t, m, n, 4, m, 0, true)
		for _, pc := range []uint32{0, 5, 8, math.MaxUint32} {
			expectUntil(t, m, n, pc, m, 0, false)
		}
	}
}

// P14.2: a machine that meets the program counter performs no more steps,
// however many are asked for.
func TestUntilStops(t *testing.T) {
	eachTraveller(t, func(t *testing.T, x traveller, m api.Machine) {
		j := journeyOf(m)
		for _, p := range j.machines {
			first, _ := j.met(far, p.Core.Pc)
			expectUntil(t, m, math.MaxInt, p.Core.Pc, j.machines[first], first, true)
			expectUntil(t, p, math.MaxInt, p.Core.Pc, p, 0, true)
		}
	})
}

// P14.2: traps lead to a program counter as other steps do: the vector is met
// when the trap is entered.
func TestUntilTrapped(t *testing.T) {
	m := stumbler().machine(t)
	for at, steps := range map[uint32]int{24: 1, 28: 2, 4: 5, 8: 10, 20: 25} {
		p, _ := Run(m, steps)
		expectUntil(t, m, far, at, p, steps, true)
	}
	always := loaded(t, "ecall\n")
	always.Core.Pc, always.Core.Csr[api.Tvec] = 4, 0
	p, _ := step.Step(always)
	expectUntil(t, always, far, 0, p, 1, true)
}

// P14.2: the program counter is the one of the processor, before relocation.
func TestUntilInUserMode(t *testing.T) {
	m, _ := Run(loaded(t, descending), 5)
	if m.Core.Pc != 4 || m.Core.Csr[api.Status]&api.Mode != 0 {
		t.Fatalf("after 5 steps the machine is %v", m)
	}
	p, _ := Run(m, 1)
	expectUntil(t, m, far, 8, p, 1, true)
	p, _ = Run(m, far)
	expectUntil(t, m, far, 24, p, far, false)
}

// P14.2: where the program counter is never met, the results are those of Run.
func TestUntilNeverIsRun(t *testing.T) {
	eachTraveller(t, func(t *testing.T, x traveller, m api.Machine) {
		for _, n := range journeyOf(m).counts() {
			want, steps := Run(m, n)
			expectUntil(t, m, n, 0x12345678, want, steps, false)
		}
	})
}

// P14.3: n and then k steps are n + k steps, in machine, number, traps and time;
// negative numbers are as 0.
func TestComposition(t *testing.T) {
	numbers := []int{-3, -1, 0, 1, 2, 3, 4, 5, 7, 10, 21, 28, 29, 45, 46, 47}
	eachTraveller(t, func(t *testing.T, x traveller, m api.Machine) {
		for _, n := range numbers {
			between, first := Run(m, n)
			for _, k := range numbers {
				last, second := Run(between, k)
				sum := max(n, 0) + max(k, 0)
				expectRun(t, m, sum, last, first+second)
				expectTraps(t, m, sum, append(Traps(m, n), Traps(between, k)...))
				if last.Time != m.Time+uint64(first)+uint64(second) {
					t.Fatalf("%d and %d steps lead from the time %d to %d", first, second, m.Time, last.Time)
				}
			}
		}
	})
}

// P14.3: running until a program counter and going on is running at once.
func TestCompositionUntil(t *testing.T) {
	eachTraveller(t, func(t *testing.T, x traveller, m api.Machine) {
		want, steps := Run(m, far)
		for _, pc := range journeyOf(m).programCounters() {
			between, first, _ := RunUntil(m, far, pc)
			last, second := Run(between, far-first)
			if !same(last, want) || first+second != steps {
				t.Fatalf("until %d and on, %v goes %d and %d steps to %v, want %d to %v", pc, m, first, second, last, steps, want)
			}
		}
	})
}

// P14.3: Time advances by the number of steps performed, modulo 2^64.
func TestTime(t *testing.T) {
	for _, x := range []struct {
		text  string
		n     int
		steps uint64
	}{
		{counting, -5, 0}, {counting, 0, 0}, {counting, 1, 1}, {counting, 3, 3}, {counting, 1000, 1000}, {turning, 7, 7}, {turning, 1000, 8}, {"ecall\n", 9, 9},
	} {
		for _, start := range []uint64{0, 1, 5, 1<<32 - 3, 1<<32 - 1, 1 << 32, 1<<63 - 2, 1<<63 - 1, math.MaxUint64 - 7, math.MaxUint64 - 2, math.MaxUint64} {
			m := loaded(t, x.text)
			m.Time = start
			got, steps := Run(m, x.n)
			until, untilSteps, _ := RunUntil(m, x.n, 0x12345678)
			if got.Time != start+x.steps || until.Time != got.Time || uint64(steps) != x.steps || untilSteps != steps {
				t.Errorf("%d steps of %q lead from the time %d to %d and %d, in %d and %d steps", x.n, x.text, start, got.Time, until.Time, steps, untilSteps)
			}
		}
	}
	m := loaded(t, counting)
	m.Time = math.MaxUint64 - 1
	if got, _ := Run(m, 4); got.Time != 2 {
		t.Errorf("4 steps lead from 2^64-2 to %d", got.Time)
	}
}

// copied is a machine with copies of its slices as far as their capacity goes.
type copied struct {
	m        api.Machine
	mem, out []byte
}

func copyOf(m api.Machine) copied {
	c := copied{m, bytes.Clone(m.Mem[:cap(m.Mem)]), bytes.Clone(m.Out[:cap(m.Out)])}
	c.m.Mem, c.m.Out = c.mem[:len(m.Mem)], c.out[:len(m.Out)]
	return c
}

// is reports whether the machine is still what was copied.
func (c copied) is(m api.Machine) bool {
	return same(c.m, m) && bytes.Equal(c.mem, m.Mem[:cap(m.Mem)]) && bytes.Equal(c.out, m.Out[:cap(m.Out)])
}

// overwrite writes over every byte of b that differs from old.
func overwrite(b, old []byte) {
	for n := range b {
		if n >= len(old) || b[n] != old[n] {
			b[n] ^= 0x5a
		}
	}
}

// calls holds the ways to a machine, each in n steps at most.
func calls(m api.Machine, n int) []api.Machine {
	a, _ := Run(m, n)
	b, _, _ := RunUntil(m, n, m.Core.Pc)
	c, _, _ := RunUntil(m, n, 8)
	d, _, _ := RunUntil(m, n, 0x12345678)
	return []api.Machine{a, b, c, d}
}

// P14.4: no call changes its argument, nor what lies behind the memory and the
// console output in their arrays.
func TestArgumentsAreLeftAlone(t *testing.T) {
	eachTraveller(t, func(t *testing.T, x traveller, m api.Machine) {
		before := copyOf(m)
		for _, n := range journeyOf(m).counts() {
			for call, f := range []func(){
				func() { Run(m, n) },
				func() { Traps(m, n) },
				func() { RunUntil(m, n, m.Core.Pc) },
				func() { RunUntil(m, n, 8) },
				func() { RunUntil(m, n, 0x12345678) },
			} {
				if f(); !before.is(m) {
					t.Fatalf("call %d with %d steps changed its argument to %v", call, n, m)
				}
			}
		}
	})
}

// P14.4: what differs in a result, and what is appended to it, is not in the
// argument's arrays.
func TestChangingResults(t *testing.T) {
	memories, outputs := 0, 0
	eachTraveller(t, func(t *testing.T, x traveller, m api.Machine) {
		before := copyOf(m)
		for _, n := range journeyOf(m).counts() {
			for call, p := range calls(m, n) {
				memories += differing(p.Mem, m.Mem)
				outputs += differing(p.Out, m.Out)
				overwrite(p.Mem, before.m.Mem)
				overwrite(p.Out, before.m.Out)
				if !before.is(m) {
					t.Fatalf("what differs after call %d with %d steps is the argument's", call, n)
				}
				p.Out, p.Mem = append(p.Out, 1), append(p.Mem, 2)
				if !before.is(m) {
					t.Fatalf("appending to what call %d gives with %d steps changed the argument", call, n)
				}
			}
		}
	})
	if memories == 0 || outputs == 0 {
		t.Errorf("%d memories and %d outputs were changed", memories, outputs)
	}
}

// differing is 1 if the two are different, else 0.
func differing(a, b []byte) int {
	if bytes.Equal(a, b) {
		return 0
	}
	return 1
}

// P14.4: a console output that is empty and has spare capacity stays so.
func TestEmptyOutputs(t *testing.T) {
	for _, text := range []string{counting, "out r1\nout r1\nhalt\n", "halt\n"} {
		m := loaded(t, text)
		m.Out = spacious(nil)
		before := copyOf(m)
		for n := range 4 {
			for call, p := range calls(m, n) {
				overwrite(p.Out, nil)
				if p.Out = append(p.Out, 'x'); !before.is(m) {
					t.Fatalf("the output after call %d with %d steps of %q is the argument's", call, n, text)
				}
			}
		}
	}
}

// P14.4: results of one argument do not write over one another, nor do the runs
// that go on from one.
func TestResultsOfOneArgument(t *testing.T) {
	m := loaded(t, "out r1\nsb r1 r0 40\njal r0 -2\n")
	other := m
	m.Core.Regs[1], other.Core.Regs[1] = 'x', 'y'
	x, _ := Run(m, 4)
	y, _ := Run(other, 4)
	again := x
	again.Core.Regs[1] = 'z'
	xx, _ := Run(x, 3)
	xz, _ := Run(again, 3)
	if string(x.Out) != "abcxx" || string(y.Out) != "abcyy" || string(xx.Out) != "abcxxx" || string(xz.Out) != "abcxxz" {
		t.Errorf("the outputs became %q, %q, %q and %q", x.Out, y.Out, xx.Out, xz.Out)
	}
	if x.Mem[40] != 'x' || y.Mem[40] != 'y' || xx.Mem[40] != 'x' || xz.Mem[40] != 'z' || m.Mem[40] != 0 {
		t.Errorf("the memories became %v, %v, %v and %v", x.Mem, y.Mem, xx.Mem, xz.Mem)
	}
}

// P14.1: calls are the same whatever became of the results of earlier ones.
func TestCallsAgain(t *testing.T) {
	eachTraveller(t, func(t *testing.T, x traveller, m api.Machine) {
		l := Traps(m, far)
		for n := range l {
			l[n] = api.Trap{Cause: 99}
		}
		expectTraps(t, m, far, x.entered(far))
		want, steps := Run(copyOf(m).m, far)
		overwrite(want.Mem, m.Mem)
		overwrite(want.Out, m.Out)
		j := journeyOf(m)
		expectRun(t, m, far, j.machines[steps], steps)
	})
}

// The chapter's example: a halted machine performs 0 steps.
func TestExample(t *testing.T) {
	m := loaded(t, counting)
	m.Halted = true
	for _, n := range []int{-1, 0, 1, 2, 1000, math.MaxInt} {
		expectRun(t, m, n, m, 0)
		expectTraps(t, m, n, nil)
		expectUntil(t, m, n, 4, m, 0, false)
	}
}

// P14.1: a memory of 2^31 bytes, the greatest there may be. Only its last word
// is ever touched, so it takes hardly any room; but it slows down what runs
// after it, so it is the last.
func TestGreatestMemory(t *testing.T) {
	const greatest = 1 << 31
	m := loaded(t, "")
	m.Mem = make([]byte, greatest)
	copy(m.Mem[greatest-4:], []byte{0, 0, 0, 0x50})
	m.Core.Pc, m.Core.Csr[api.Tvec] = greatest-4, greatest-4
	got, steps := Run(m, 3)
	until, untilSteps, met := RunUntil(m, 3, 0)
	if steps != 3 || got.Time != now+3 || got.Core.Pc != greatest-4 || len(got.Mem) != greatest || untilSteps != 3 || met || until.Core != got.Core {
		t.Errorf("3 calls at the end of 2^31 bytes are %d and %d steps to %v", steps, untilSteps, got.Core)
	}
	called := api.Trap{Cause: api.Called}
	if l := Traps(m, 3); !slices.Equal(l, []api.Trap{called, called, called}) {
		t.Errorf("3 calls at the end of 2^31 bytes enter %v", l)
	}
}
