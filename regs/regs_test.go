package regs

import (
	"math"
	"testing"

	"gaoler/api"
)

type file = [api.Regs]uint32

const greatest = math.MaxUint32

// outside holds numbers that name no register. Some of them name one if they
// are cut to their low 4, 8, 16 or 32 bits.
var outside = []int{
	-1, -2, -15, -16, -17, -255, -256, -1000, -1 << 16, -1 << 31, -1<<32 + 1, -1<<32 + 15,
	math.MinInt, math.MinInt + 1, math.MinInt + 15,
	16, 17, 18, 31, 32, 33, 255, 256, 257, 1000, 1<<16 + 1, 1<<31 - 1, 1 << 31, 1<<32 - 1, 1 << 32, 1<<32 + 1, 1<<32 + 15,
	math.MaxInt - 15, math.MaxInt - 1, math.MaxInt,
}

// values holds the values that are written.
var values = []uint32{0, 1, 2, 15, 16, 255, 256, 1<<16 - 1, 1 << 16, 1<<31 - 1, 1 << 31, greatest - 1, greatest}

// filled returns the register file that stores at(i) at every index i.
func filled(at func(i uint32) uint32) file {
	out := file{}
	for i := range out {
		out[i] = at(uint32(i))
	}
	return out
}

// files returns register files. In most of them every register holds another
// number, and in some of them another number than 0 is stored at index 0.
func files() map[string]file {
	return map[string]file{
		"0 everywhere":                {},
		"greatest everywhere":         filled(func(i uint32) uint32 { return greatest }),
		"each its number":             filled(func(i uint32) uint32 { return i }),
		"from 100 up":                 filled(func(i uint32) uint32 { return 100 + i }),
		"from the greatest down":      filled(func(i uint32) uint32 { return greatest - i }),
		"numbers of four bytes":       filled(func(i uint32) uint32 { return 0x10001 + 0x01010203*i }),
		"multiples of four bytes":     filled(func(i uint32) uint32 { return 0x0f0e0d0c * i }),
		"7 at index 0 alone":          {0: 7},
		"the greatest at index 0":     {0: greatest},
		"the greatest at both ends":   {0: greatest, 15: greatest},
		"the greatest next to both":   {1: greatest, 14: greatest},
		"one number, other than at 0": {3, 5, 5, 5, 5, 5, 5, 5, 5, 5, 5, 5, 5, 5, 5, 5},
	}
}

// reads returns what a register file reads as: what is stored, but for
// register 0.
func reads(r file) file {
	r[0] = 0
	return r
}

// written returns the file that holds v where one may be written at i. It is
// built index by index.
func written(r file, i int, v uint32) file {
	out := file{}
	for at := range out {
		out[at] = r[at]
		if at == i && at != 0 {
			out[at] = v
		}
	}
	return out
}

// P7.1: Get at every register.
func TestGet(t *testing.T) {
	for name, r := range files() {
		before := r
		for i, want := range reads(r) {
			if got := Get(r, i); got != want {
				t.Errorf("%s: Get %d = %#x, not %#x", name, i, got, want)
			}
		}
		if r != before {
			t.Errorf("%s: Get changed its argument to %v", name, r)
		}
	}
}

// P7.1: the numbers that are read are written down here, not computed.
func TestGetByHand(t *testing.T) {
	r := file{100, 101, 102, 103, 104, 105, 106, 107, 108, 109, 110, 111, 112, 113, 114, greatest}
	cases := []struct {
		i    int
		want uint32
	}{
		{math.MinInt, 0}, {-1, 0}, {0, 0}, {1, 101}, {2, 102}, {3, 103}, {4, 104}, {5, 105}, {6, 106}, {7, 107}, {8, 108},
		{9, 109}, {10, 110}, {11, 111}, {12, 112}, {13, 113}, {14, 114}, {15, greatest}, {16, 0}, {math.MaxInt, 0},
	}
	for _, c := range cases {
		if got := Get(r, c.i); got != c.want {
			t.Errorf("Get %d = %d, not %d", c.i, got, c.want)
		}
	}
}

// P7.1: Get of register 0 is 0, whatever is stored at index 0.
func TestGetOfRegister0(t *testing.T) {
	for _, stored := range values {
		if got := Get(file{0: stored, 1: 5}, 0); got != 0 {
			t.Errorf("Get 0 with %#x stored at index 0 = %#x", stored, got)
		}
	}
}

// P7.1: Get of numbers outside 0 to 15.
func TestGetOutside(t *testing.T) {
	for name, r := range files() {
		for _, i := range outside {
			if got := Get(r, i); got != 0 {
				t.Errorf("%s: Get %d = %#x, not 0", name, i, got)
			}
		}
	}
}

// P7.1: Set at every register changes that one, but not register 0, and no
// other.
func TestSet(t *testing.T) {
	for name, r := range files() {
		before := r
		for i := range api.Regs {
			for _, v := range values {
				want := written(r, i, v)
				if got := Set(r, i, v); got != want {
					t.Errorf("%s: Set %d %#x = %v, not %v", name, i, v, got, want)
				}
			}
		}
		if r != before {
			t.Errorf("%s: Set changed its argument to %v", name, r)
		}
	}
}

// P7.1: the files that are returned are written down here, not computed.
func TestSetByHand(t *testing.T) {
	r := file{100, 101, 102, 103, 104, 105, 106, 107, 108, 109, 110, 111, 112, 113, 114, 115}
	cases := []struct {
		i    int
		v    uint32
		want file
	}{
		{math.MinInt, 7, r}, {-1, 7, r}, {0, 7, r}, {0, 0, r}, {16, 7, r}, {math.MaxInt, 7, r},
		{1, 7, file{100, 7, 102, 103, 104, 105, 106, 107, 108, 109, 110, 111, 112, 113, 114, 115}},
		{8, 0, file{100, 101, 102, 103, 104, 105, 106, 107, 0, 109, 110, 111, 112, 113, 114, 115}},
		{15, greatest, file{100, 101, 102, 103, 104, 105, 106, 107, 108, 109, 110, 111, 112, 113, 114, greatest}},
		{15, 115, r},
	}
	for _, c := range cases {
		if got := Set(r, c.i, c.v); got != c.want {
			t.Errorf("Set %d %d = %v, not %v", c.i, c.v, got, c.want)
		}
	}
}

// P7.1: Set of register 0 and of numbers outside 0 to 15 returns the file as it
// was, with what is stored at index 0.
func TestSetIgnored(t *testing.T) {
	for name, r := range files() {
		for _, i := range append([]int{0}, outside...) {
			for _, v := range values {
				if got := Set(r, i, v); got != r {
					t.Errorf("%s: Set %d %#x = %v, not %v", name, i, v, got, r)
				}
			}
		}
	}
}

// P7.2: ClearZero stores 0 at index 0 and leaves the others.
func TestClearZero(t *testing.T) {
	for name, r := range files() {
		before := r
		got := ClearZero(r)
		if got[0] != 0 {
			t.Errorf("%s: ClearZero leaves %#x at index 0", name, got[0])
		}
		for i := 1; i < api.Regs; i++ {
			if got[i] != before[i] {
				t.Errorf("%s: ClearZero stores %#x at index %d, where %#x was", name, got[i], i, before[i])
			}
		}
		if r != before {
			t.Errorf("%s: ClearZero changed its argument to %v", name, r)
		}
	}
}

// P7.2: whatever is stored at index 0; and no read of a register tells whether
// it was cleared.
func TestClearZeroOfEveryValue(t *testing.T) {
	for _, stored := range values {
		r := file{0: stored, 1: 1, 15: greatest}
		got := ClearZero(r)
		if want := (file{1: 1, 15: greatest}); got != want {
			t.Errorf("ClearZero with %#x stored at index 0 = %v, not %v", stored, got, want)
		}
		if ClearZero(got) != got {
			t.Errorf("with %#x stored at index 0, a second ClearZero changes the file", stored)
		}
		for i := range api.Regs {
			if Get(got, i) != Get(r, i) {
				t.Errorf("with %#x stored at index 0, ClearZero changes register %d", stored, i)
			}
		}
	}
}

// P7.3: after Set of register i, Get of it returns the value, 0 for register 0,
// and Get of every other returns what it returned before.
func TestGetAfterSet(t *testing.T) {
	for name, r := range files() {
		for i := range api.Regs {
			for _, v := range values {
				after := Set(r, i, v)
				for j := range api.Regs {
					want := Get(r, j)
					if i == j && i != 0 {
						want = v
					}
					if got := Get(after, j); got != want {
						t.Errorf("%s: Get %d after Set %d %#x = %#x, not %#x", name, j, i, v, got, want)
					}
				}
			}
		}
	}
}

// P7.3: a write that is ignored changes no register.
func TestGetAfterIgnoredSet(t *testing.T) {
	for name, r := range files() {
		for _, i := range append([]int{0}, outside...) {
			after := Set(r, i, 0x1234)
			for j := range api.Regs {
				if got, want := Get(after, j), Get(r, j); got != want {
					t.Errorf("%s: Get %d after Set %d = %#x, not %#x", name, j, i, got, want)
				}
			}
			if got := Get(after, i); got != 0 {
				t.Errorf("%s: Get %d after Set of it = %#x, not 0", name, i, got)
			}
		}
	}
}

// P7.3: of two writes to one register the later counts, and writes to two
// different registers may be exchanged.
func TestTwoWrites(t *testing.T) {
	pairs := [][2]uint32{{0, greatest}, {greatest, 0}, {3, 4}, {4, 3}, {5, 5}, {1 << 31, 1}}
	for name, r := range files() {
		for i := range api.Regs {
			for j := range api.Regs {
				for _, v := range pairs {
					checkTwoWrites(t, name, r, [2]int{i, j}, v)
				}
			}
		}
	}
}

// checkTwoWrites writes v[0] to register at[0] and then v[1] to register at[1].
func checkTwoWrites(t *testing.T, name string, r file, at [2]int, v [2]uint32) {
	t.Helper()
	got := Set(Set(r, at[0], v[0]), at[1], v[1])
	if want := written(written(r, at[0], v[0]), at[1], v[1]); got != want {
		t.Errorf("%s: writes of %v to %v give %v, not %v", name, v, at, got, want)
	}
	if at[0] == at[1] {
		if later := Set(r, at[1], v[1]); got != later {
			t.Errorf("%s: writes of %v to %v give %v, the later alone %v", name, v, at, got, later)
		}
		return
	}
	if exchanged := Set(Set(r, at[1], v[1]), at[0], v[0]); got != exchanged {
		t.Errorf("%s: writes of %v to %v give %v, exchanged %v", name, v, at, got, exchanged)
	}
}

// P7.3: a file that is filled register by register, upwards or downwards, reads
// as what was written, and writing back what is read changes nothing.
func TestFill(t *testing.T) {
	for name, r := range files() {
		want := reads(r)
		up, down, back := file{0: 9, 3: 9}, file{0: 9, 12: 9}, r
		for i := range api.Regs {
			up = Set(up, i, r[i])
			last := api.Regs - 1 - i
			down = Set(down, last, r[last])
			back = Set(back, i, Get(back, i))
		}
		for i := range api.Regs {
			if Get(up, i) != want[i] || Get(down, i) != want[i] {
				t.Errorf("%s: register %d reads as %#x filled upwards, %#x filled downwards, not %#x", name, i, Get(up, i), Get(down, i), want[i])
			}
		}
		if up[0] != 9 || down[0] != 9 {
			t.Errorf("%s: filling changes what is stored at index 0 to %d and %d", name, up[0], down[0])
		}
		if back != r {
			t.Errorf("%s: writing back what is read gives %v", name, back)
		}
	}
}
