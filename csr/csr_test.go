package csr

import (
	"math"
	"strings"
	"testing"

	"gaoler/api"
)

// The chapter's CSRs in the order of their numbers, written out by hand, so
// that the tables under test are not held against themselves.
var registers = []struct {
	name string
	mask uint32
}{
	0:  {"status", 0x0000000e},
	1:  {"epc", 0xfffffffc},
	2:  {"cause", 0xffffffff},
	3:  {"tval", 0xffffffff},
	4:  {"tvec", 0xfffffffc},
	5:  {"base", 0xfffffffc},
	6:  {"bound", 0xffffffff},
	7:  {"time", 0x00000000},
	8:  {"timeh", 0x00000000},
	9:  {"cmp", 0xffffffff},
	10: {"cmph", 0xffffffff},
	11: {"scratch", 0xffffffff},
}

// wrongNumbers holds numbers of no CSR, some of which become one if all but
// their low bits are lost.
var wrongNumbers = []int{
	math.MinInt, -1 << 32, -256, -16, -12, -11, -1,
	12, 13, 15, 16, 17, 255, 256, 1 << 16, 1 << 32, 1<<32 + 7, math.MaxInt,
}

// words holds patterns in which every bit is seen both set and clear.
var words = []uint32{
	0, 0xffffffff, 1, 2, 3, 4, 8, 0xe, 0xf, 0xfffffff1, 0x7fffffff, 0x80000000,
	0xaaaaaaaa, 0x55555555, 0xa5a5a5a7, 0xdeadbeef, 0x01234567,
}

// times holds times at the edges of 32 and 64 bits and ones whose halves differ.
var times = []struct {
	time      uint64
	low, high uint32
}{
	{0, 0, 0},
	{1, 1, 0},
	{0x000000007fffffff, 0x7fffffff, 0},
	{0x0000000080000000, 0x80000000, 0},
	{0x00000000ffffffff, 0xffffffff, 0},
	{0x0000000100000000, 0, 1},
	{0x0000000100000001, 1, 1},
	{0x0000000300000004, 4, 3},
	{0x0123456789abcdef, 0x89abcdef, 0x01234567},
	{0x7fffffffffffffff, 0xffffffff, 0x7fffffff},
	{0x8000000000000000, 0, 0x80000000},
	{0xfffffffeffffffff, 0xffffffff, 0xfffffffe},
	{0xffffffff00000000, 0, 0xffffffff},
	{0xfffffffffffffffe, 0xfffffffe, 0xffffffff},
	{math.MaxUint64, 0xffffffff, 0xffffffff},
}

// filled returns CSRs that all hold w.
func filled(w uint32) [api.Csrs]uint32 {
	var c [api.Csrs]uint32
	for n := range c {
		c[n] = w
	}
	return c
}

// distinct returns CSRs of which no two hold the same, so that a mix-up shows.
func distinct() [api.Csrs]uint32 {
	var c [api.Csrs]uint32
	for n := range c {
		c[n] = 0x10203041 * uint32(n+1)
	}
	return c
}

// files returns CSRs of several contents.
func files() [][api.Csrs]uint32 {
	out := [][api.Csrs]uint32{Reset(), distinct()}
	for _, w := range words {
		out = append(out, filled(w))
	}
	return out
}

// bitOf is bit number i of w, found by division rather than by a mask.
func bitOf(w uint32, i int) uint64 {
	return uint64(w) / (uint64(1) << i) % 2
}

// P4.1: each CSR has the chapter's name, number and write mask.
func TestEveryCsr(t *testing.T) {
	if len(registers) != api.Csrs {
		t.Fatalf("%d CSRs are tried, want %d", len(registers), api.Csrs)
	}
	for n, r := range registers {
		if got := Name(n); got != r.name {
			t.Errorf("Name(%d) = %q, want %q", n, got, r.name)
		}
		if got, ok := Number(r.name); got != n || !ok {
			t.Errorf("Number(%q) = %d, %v, want %d, true", r.name, got, ok, n)
		}
		if got := WriteMask(n); got != r.mask {
			t.Errorf("WriteMask(%d) = %#x, want %#x", n, got, r.mask)
		}
	}
}

// P4.1: the numbers and names belong to the constants of package api.
func TestNamesOfConstants(t *testing.T) {
	for name, n := range map[string]int{
		"status": api.Status, "epc": api.Epc, "cause": api.Cause, "tval": api.Tval,
		"tvec": api.Tvec, "base": api.Base, "bound": api.Bound, "time": api.Time,
		"timeh": api.Timeh, "cmp": api.Cmp, "cmph": api.Cmph, "scratch": api.Scratch,
	} {
		if got := Name(n); got != name {
			t.Errorf("Name(%d) = %q, want %q", n, got, name)
		}
		if got, ok := Number(name); got != n || !ok {
			t.Errorf("Number(%q) = %d, %v, want %d, true", name, got, ok, n)
		}
	}
}

// P4.1: what is the number of no CSR has neither name nor write mask.
func TestWrongNumbers(t *testing.T) {
	for _, n := range wrongNumbers {
		if got := Name(n); got != "" {
			t.Errorf("Name(%d) = %q, want none", n, got)
		}
		if got := WriteMask(n); got != 0 {
			t.Errorf("WriteMask(%d) = %#x, want 0", n, got)
		}
	}
}

// isName reports whether s is the name of a CSR.
func isName(s string) bool {
	for _, r := range registers {
		if r.name == s {
			return true
		}
	}
	return false
}

// P4.1: named strings that are the name of no CSR have no number.
func TestNumberOfWrongNames(t *testing.T) {
	for _, s := range []string{
		"", " ", "\x00", "\n", "0", "1", "11", "12", "-1", "c0", "c11", "r1", "none",
		"Status", "STATUS", "Epc", "EPC", "Scratch", "SCRATCH", "timeH", "Timeh",
		" status", "status ", "\tepc", "epc\n", "epc\x00", "\x00epc",
		"statu", "tatus", "statuss", "sstatus", "ep", "pc", "epcc",
		"tim", "ime", "timehh", "timel", "cm", "mp", "cmphh", "cmpl",
		"scratc", "cratch", "scratchh", "mask", "mode", "halt", "csrr",
		"status epc", "statusepc", "status,epc", "ｅｐｃ", "\xff",
	} {
		if n, ok := Number(s); n != 0 || ok {
			t.Errorf("Number(%q) = %d, %v, want 0, false", s, n, ok)
		}
	}
}

// P4.1: a name of which a byte is missing, added or changed is a name only if
// it is the name of another CSR (time and timeh, cmp and cmph, tval and tvec).
func TestNumberOfNearNames(t *testing.T) {
	for _, r := range registers {
		for _, s := range nearNames(r.name) {
			if isName(s) {
				continue
			}
			if n, ok := Number(s); n != 0 || ok {
				t.Errorf("Number(%q) = %d, %v, want 0, false", s, n, ok)
			}
		}
	}
}

// nearNames returns the strings that one byte missing, added or changed makes
// of s, and s in other cases and between blanks.
func nearNames(s string) []string {
	out := []string{strings.ToUpper(s), strings.ToUpper(s[:1]) + s[1:], " " + s, s + " ", s + s}
	for at := range s {
		out = append(out, s[:at]+s[at+1:])
		for b := range 256 {
			if byte(b) != s[at] {
				out = append(out, s[:at]+string([]byte{byte(b)})+s[at+1:])
			}
		}
	}
	for at := range len(s) + 1 {
		for b := range 256 {
			out = append(out, s[:at]+string([]byte{byte(b)})+s[at:])
		}
	}
	return out
}

// P4.2: Time and Timeh read as the halves of the time, whatever the CSRs hold
// there.
func TestReadTime(t *testing.T) {
	for _, c := range files() {
		for _, x := range times {
			if got := Read(c, x.time, api.Time); got != x.low {
				t.Errorf("time %#x reads as %#x, want %#x", x.time, got, x.low)
			}
			if got := Read(c, x.time, api.Timeh); got != x.high {
				t.Errorf("timeh at %#x reads as %#x, want %#x", x.time, got, x.high)
			}
		}
	}
}

// P4.2: every other CSR reads as what it holds, whatever the time.
func TestReadOthers(t *testing.T) {
	for _, c := range files() {
		for n, held := range c {
			if n == api.Time || n == api.Timeh {
				continue
			}
			for _, x := range times {
				if got := Read(c, x.time, n); got != held {
					t.Errorf("CSR %d at %#x reads as %#x, want %#x", n, x.time, got, held)
				}
			}
		}
	}
}

// P4.2: what is no CSR reads as 0.
func TestReadWrongNumbers(t *testing.T) {
	for _, n := range wrongNumbers {
		for _, x := range times {
			if got := Read(filled(0xffffffff), x.time, n); got != 0 {
				t.Errorf("CSR %d at %#x reads as %#x, want 0", n, x.time, got)
			}
		}
	}
}

// P4.2: named writes, with the old bits clear and set.
func TestWriteNamed(t *testing.T) {
	for _, x := range []struct {
		n            int
		old, v, want uint32
	}{
		{api.Status, 1, 0xf, 0xf},
		{api.Status, 0xf, 0, 1},
		{api.Status, 0, 0xffffffff, 0xe},
		{api.Status, 0xffffffff, 0, 0xfffffff1},
		{api.Status, 0xfffffff1, 0xffffffff, 0xffffffff},
		{api.Status, 0, 1, 0},
		{api.Status, 1, 2, 3},
		{api.Epc, 0, 0xffffffff, 0xfffffffc},
		{api.Epc, 0xffffffff, 0, 3},
		{api.Epc, 1, 6, 5},
		{api.Tvec, 0, 0xffffffff, 0xfffffffc},
		{api.Tvec, 0xffffffff, 0, 3},
		{api.Base, 0, 0xffffffff, 0xfffffffc},
		{api.Base, 0xffffffff, 0, 3},
		{api.Base, 2, 0x8000000d, 0x8000000e},
		{api.Bound, 0, 0xffffffff, 0xffffffff},
		{api.Bound, 0xffffffff, 3, 3},
		{api.Time, 0, 0xffffffff, 0},
		{api.Time, 0xffffffff, 0, 0xffffffff},
		{api.Timeh, 0, 0xffffffff, 0},
		{api.Timeh, 77, 0, 77},
		{api.Cause, 0xffffffff, 0, 0},
		{api.Tval, 0, 0xdeadbeef, 0xdeadbeef},
		{api.Cmp, 0xffffffff, 9, 9},
		{api.Cmph, 0, 0xffffffff, 0xffffffff},
		{api.Scratch, 0x55555555, 0xaaaaaaaa, 0xaaaaaaaa},
	} {
		if got := Write(filled(x.old), x.n, x.v); got[x.n] != x.want {
			t.Errorf("writing %#x over %#x in CSR %d gives %#x, want %#x", x.v, x.old, x.n, got[x.n], x.want)
		}
	}
}

// P4.2, P4.3: a write takes each bit of the mask from the value and each other
// bit from the old one, and leaves every other CSR as it was.
func TestWriteEveryBit(t *testing.T) {
	for _, c := range files() {
		for n, r := range registers {
			for _, v := range words {
				got := Write(c, n, v)
				for i := range 32 {
					want := bitOf(c[n], i)
					if bitOf(r.mask, i) == 1 {
						want = bitOf(v, i)
					}
					if bitOf(got[n], i) != want {
						t.Fatalf("writing %#x over %#x in CSR %d gives %#x: bit %d should be %d", v, c[n], n, got[n], i, want)
					}
				}
				if !onlyDiffersAt(c, got, n) {
					t.Fatalf("writing %#x to CSR %d makes %x of %x", v, n, got, c)
				}
			}
		}
	}
}

// onlyDiffersAt reports whether two files hold the same in all CSRs but n.
func onlyDiffersAt(a, b [api.Csrs]uint32, n int) bool {
	for i := range a {
		if i != n && a[i] != b[i] {
			return false
		}
	}
	return true
}

// P4.2: a write to what is no CSR changes nothing.
func TestWriteWrongNumbers(t *testing.T) {
	for _, c := range files() {
		for _, n := range wrongNumbers {
			for _, v := range words {
				if got := Write(c, n, v); got != c {
					t.Fatalf("writing %#x to CSR %d makes %x of %x", v, n, got, c)
				}
			}
		}
	}
}

// P4.2: no call changes the CSRs that it is given.
func TestArgumentsAreLeftAlone(t *testing.T) {
	c, before := distinct(), distinct()
	for n := -1; n <= api.Csrs; n++ {
		for _, v := range words {
			got := Write(c, n, v)
			got[0]++
			Read(c, uint64(v)<<16, n)
			TimerCompare(c)
			if c != before {
				t.Fatalf("CSR %d: %x became %x", n, before, c)
			}
		}
	}
}

// P4.2: the compare value has the low half Cmp and the high half Cmph,
// whatever the other CSRs hold.
func TestTimerCompare(t *testing.T) {
	for _, c := range files() {
		for _, x := range times {
			c[api.Cmp], c[api.Cmph] = x.low, x.high
			if got := TimerCompare(c); got != x.time {
				t.Errorf("halves %#x and %#x make %#x, want %#x", x.low, x.high, got, x.time)
			}
		}
	}
}

// P4.2: the reset values.
func TestReset(t *testing.T) {
	want := [api.Csrs]uint32{0: 1, 9: 0xffffffff, 10: 0xffffffff}
	if got := Reset(); got != want {
		t.Errorf("Reset() = %x, want %x", got, want)
	}
	if got := TimerCompare(Reset()); got != math.MaxUint64 {
		t.Errorf("the compare value after reset is %#x", got)
	}
}

// P4.2: changing what Reset returned doesn't change the next reset.
func TestResetIsNew(t *testing.T) {
	first := Reset()
	for n := range first {
		first[n] = 0x1234
	}
	if again := Reset(); again[api.Status] != api.Mode || again[api.Tvec] != 0 {
		t.Errorf("Reset() = %x after a change to an earlier one", again)
	}
}

// P4.3: reading after a write returns the written bits under the mask and the
// old ones elsewhere; Time and Timeh read as the time before and after it.
func TestReadAfterWrite(t *testing.T) {
	const now = 0x0123456789abcdef
	for _, c := range files() {
		for n, r := range registers {
			for _, v := range words {
				got, old := Read(Write(c, n, v), now, n), Read(c, now, n)
				if got&r.mask != v&r.mask {
					t.Errorf("CSR %d reads as %#x after writing %#x", n, got, v)
				}
				if got&^r.mask != old&^r.mask {
					t.Errorf("CSR %d reads as %#x after writing %#x over %#x", n, got, v, old)
				}
			}
		}
	}
}

// P4.3: a later write to a CSR leaves nothing of an earlier one under the mask,
// and writes to different CSRs don't disturb each other.
func TestWritesOneAfterAnother(t *testing.T) {
	c := Reset()
	for n := range registers {
		c = Write(c, n, 0xffffffff)
	}
	all := [api.Csrs]uint32{
		0xf, 0xfffffffc, 0xffffffff, 0xffffffff, 0xfffffffc, 0xfffffffc,
		0xffffffff, 0, 0, 0xffffffff, 0xffffffff, 0xffffffff,
	}
	if c != all {
		t.Errorf("all bits written to every CSR: %x, want %x", c, all)
	}
	for n := range registers {
		c = Write(c, n, 0)
	}
	if want := ([api.Csrs]uint32{api.Status: api.Mode}); c != want {
		t.Errorf("no bits written to every CSR: %x, want %x", c, want)
	}
}
