package bits

import (
	"math"
	"testing"
)

// words holds patterns in which every bit is seen both set and clear.
var words = []uint32{0, 1, 0x80000000, 0x7fffffff, 0xffffffff, 0xaaaaaaaa, 0x55555555, 0xdeadbeef, 0xabcd1234, 0x0f0ff0f0}

// eachField calls f for every valid field.
func eachField(f func(at, n int)) {
	for n := 1; n <= 32; n++ {
		for at := 0; at <= 32-n; at++ {
			f(at, n)
		}
	}
}

// bitAt is bit number i of w, found by division rather than by a mask.
func bitAt(w uint32, i int) uint64 {
	return uint64(w) / (uint64(1) << i) % 2
}

// P1.1: named values of Extract.
func TestExtractValues(t *testing.T) {
	for _, c := range []struct {
		w     uint32
		at, n int
		want  uint32
	}{
		{0xabcd1234, 4, 8, 0x23},
		{0xdeadbeef, 0, 32, 0xdeadbeef},
		{0xdeadbeef, 24, 8, 0xde},
		{0x80000000, 31, 1, 1},
		{0x7fffffff, 31, 1, 0},
		{1, 0, 1, 1},
		{0xfffffffe, 0, 1, 0},
		{0xffffffff, 1, 31, 0x7fffffff},
		{0xffffffff, 0, 31, 0x7fffffff},
	} {
		if got := Extract(c.w, c.at, c.n); got != c.want {
			t.Errorf("Extract(%#x, %d, %d) = %#x, want %#x", c.w, c.at, c.n, got, c.want)
		}
	}
}

// P1.1: Extract agrees with the bits of the word one by one, for every field.
func TestExtractEveryField(t *testing.T) {
	for _, w := range words {
		eachField(func(at, n int) {
			var want uint64
			for i := 0; i < n; i++ {
				want += bitAt(w, at+i) << i
			}
			if got := Extract(w, at, n); uint64(got) != want {
				t.Errorf("Extract(%#x, %d, %d) = %#x, want %#x", w, at, n, got, want)
			}
		})
	}
}

// P1.1: named values of Insert; the bits of v above the field are dropped.
func TestInsertValues(t *testing.T) {
	for _, c := range []struct {
		w     uint32
		at, n int
		v     uint32
		want  uint32
	}{
		{0xabcd1234, 4, 8, 0x56, 0xabcd1564},
		{0, 4, 8, 0xffffffff, 0xff0},
		{0xffffffff, 4, 8, 0xff00, 0xfffff00f},
		{0, 31, 1, 1, 0x80000000},
		{0xffffffff, 31, 1, 2, 0x7fffffff},
		{0xdeadbeef, 0, 32, 0x01234567, 0x01234567},
		{0, 26, 6, 0xfff, 0xfc000000},
		{0xffffffff, 0, 1, 0, 0xfffffffe},
	} {
		if got := Insert(c.w, c.at, c.n, c.v); got != c.want {
			t.Errorf("Insert(%#x, %d, %d, %#x) = %#x, want %#x", c.w, c.at, c.n, c.v, got, c.want)
		}
	}
}

// P1.1: Insert takes the field from v and every other bit from w.
func TestInsertEveryField(t *testing.T) {
	for _, w := range words {
		for _, v := range words {
			eachField(func(at, n int) {
				got := Insert(w, at, n, v)
				for i := 0; i < 32; i++ {
					want := bitAt(w, i)
					if at <= i && i < at+n {
						want = bitAt(v, i-at)
					}
					if bitAt(got, i) != want {
						t.Fatalf("Insert(%#x, %d, %d, %#x) = %#x: bit %d should be %d", w, at, n, v, got, i, want)
					}
				}
			})
		}
	}
}

// P1.2: named values of SignExtend; the bits of v above the low n are ignored.
func TestSignExtendValues(t *testing.T) {
	for _, c := range []struct {
		v    uint32
		n    int
		want int32
	}{
		{3, 2, -1},
		{0, 1, 0},
		{1, 1, -1},
		{2, 1, 0},
		{0x1ffff, 18, 131071},
		{0x20000, 18, -131072},
		{0x3ffff, 18, -1},
		{0xfffc0001, 18, 1},
		{0x3fffffff, 31, math.MaxInt32 / 2},
		{0x40000000, 31, math.MinInt32 / 2},
		{0x7fffffff, 32, math.MaxInt32},
		{0x80000000, 32, math.MinInt32},
		{0xffffffff, 32, -1},
	} {
		if got := SignExtend(c.v, c.n); got != c.want {
			t.Errorf("SignExtend(%#x, %d) = %d, want %d", c.v, c.n, got, c.want)
		}
	}
}

// P1.2: the top bit of the n counts negative, the others positive.
func TestSignExtendEveryWidth(t *testing.T) {
	for _, v := range words {
		for n := 1; n <= 32; n++ {
			want := -int64(bitAt(v, n-1)) << (n - 1)
			for i := 0; i < n-1; i++ {
				want += int64(bitAt(v, i)) << i
			}
			if got := SignExtend(v, n); int64(got) != want {
				t.Errorf("SignExtend(%#x, %d) = %d, want %d", v, n, got, want)
			}
		}
	}
}

// edges lists the values at both ends of what fits in n bits, those just
// inside and just beyond them, and a few far from either, as far as they are
// values of an int32.
func edges(n int) []int32 {
	low, high := -(int64(1) << (n - 1)), int64(1)<<(n-1)-1
	var out []int32
	for _, v := range []int64{low - 1, low, low + 1, -1, 0, 1, high - 1, high, high + 1, math.MinInt32, math.MaxInt32} {
		if math.MinInt32 <= v && v <= math.MaxInt32 {
			out = append(out, int32(v))
		}
	}
	return out
}

// P1.2: FitsSigned holds from the least to the greatest n-bit number only.
func TestFitsSignedEdges(t *testing.T) {
	for n := 1; n <= 32; n++ {
		low, high := -(int64(1) << (n - 1)), int64(1)<<(n-1)-1
		for _, v := range edges(n) {
			want := low <= int64(v) && int64(v) <= high
			if got := FitsSigned(v, n); got != want {
				t.Errorf("FitsSigned(%d, %d) = %v, want %v", v, n, got, want)
			}
		}
	}
}

// P1.2: named values of FitsSigned.
func TestFitsSignedValues(t *testing.T) {
	for _, c := range []struct {
		v    int32
		n    int
		want bool
	}{
		{0, 1, true}, {-1, 1, true}, {1, 1, false}, {-2, 1, false},
		{131071, 18, true}, {131072, 18, false},
		{-131072, 18, true}, {-131073, 18, false},
		{math.MaxInt32, 31, false}, {math.MinInt32, 31, false},
		{math.MaxInt32, 32, true}, {math.MinInt32, 32, true},
	} {
		if got := FitsSigned(c.v, c.n); got != c.want {
			t.Errorf("FitsSigned(%d, %d) = %v, want %v", c.v, c.n, got, c.want)
		}
	}
}

// P1.2: named values of LowBits.
func TestLowBitsValues(t *testing.T) {
	for _, c := range []struct {
		v    int32
		n    int
		want uint32
	}{
		{7, 3, 7}, {8, 3, 0}, {-1, 1, 1}, {-2, 1, 0},
		{-1, 18, 0x3ffff}, {-131072, 18, 0x20000},
		{-1, 31, 0x7fffffff}, {-1, 32, 0xffffffff},
		{math.MinInt32, 32, 0x80000000}, {math.MinInt32, 31, 0},
	} {
		if got := LowBits(c.v, c.n); got != c.want {
			t.Errorf("LowBits(%d, %d) = %#x, want %#x", c.v, c.n, got, c.want)
		}
	}
}

// P1.2: LowBits is the remainder of v by 2^n, for every width.
func TestLowBitsEveryWidth(t *testing.T) {
	for n := 1; n <= 32; n++ {
		size := int64(1) << n
		for _, v := range edges(n) {
			want := (int64(v)%size + size) % size
			if got := LowBits(v, n); int64(got) != want {
				t.Errorf("LowBits(%d, %d) = %#x, want %#x", v, n, got, want)
			}
		}
	}
}

// P1.3: a value is recovered from its low n bits exactly if it fits in them.
func TestRecovery(t *testing.T) {
	for n := 1; n <= 32; n++ {
		for _, v := range edges(n) {
			recovered := SignExtend(LowBits(v, n), n) == v
			if recovered != FitsSigned(v, n) {
				t.Errorf("n %d: %d fits: %v, recovered: %v", n, v, FitsSigned(v, n), recovered)
			}
		}
	}
}

// P1.3: every number of up to 12 bits is recovered.
func TestRecoveryOfAllSmall(t *testing.T) {
	for n := 1; n <= 12; n++ {
		for v := int32(-1) << (n - 1); v < 1<<(n-1); v++ {
			if !FitsSigned(v, n) || SignExtend(LowBits(v, n), n) != v {
				t.Fatalf("n %d: %d is not recovered", n, v)
			}
		}
	}
}

// Arguments that make no field have no promised result, but must not panic.
func TestInvalidFieldsDoNotPanic(t *testing.T) {
	wrong := []int{math.MinInt, -33, -32, -1, 0, 1, 31, 32, 33, 64, 65, math.MaxInt}
	for _, w := range words {
		for _, n := range wrong {
			SignExtend(w, n)
			FitsSigned(int32(w), n)
			LowBits(int32(w), n)
			for _, at := range wrong {
				Extract(w, at, n)
				Insert(w, at, n, ^w)
			}
		}
	}
}
