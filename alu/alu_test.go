package alu

import (
	"math"
	"slices"
	"testing"

	"gaoler/api"
)

const (
	greatest = math.MaxUint32
	modulus  = int64(1) << 32
)

// operands holds the numbers that are tried with each other. They are in the
// order of two's complement numbers, from the least to the greatest, so that
// the place of a number tells which others it is less than.
var operands = []uint32{
	0x80000000, 0x80000001, 0x80000002, 0x8000001f, 0x80000020, 0x8fffffff, 0xaaaaaaaa, 0xbfffffff,
	0xc0000000, 0xdeadbeef, 0xf0f0f0f0, 0xff00ff00, 0xffff0000, 0xffff8000, 0xffffff80, 0xffffffdf,
	0xffffffe0, 0xffffffe4, 0xfffffffe, 0xffffffff,
	0, 1, 2, 3, 4, 15, 16, 30, 31, 32, 33, 63, 64, 65, 127, 128, 255, 256, 0x7fff, 0x8000, 0xffff, 0x10000,
	0x0f0f0f0f, 0x0ff00ff0, 0x12345678, 0x3fffffff, 0x40000000, 0x55555555, 0x7ffffffe, 0x7fffffff,
}

// outside holds numbers of no opcode. Some of them become one if they are cut
// to their low 5, 6, 8, 16 or 32 bits or lose their sign.
var outside = []int{
	math.MinInt, math.MinInt + 1, math.MinInt + 8, -1 << 40, -1<<32 + 1, -1<<32 + 15, -1 << 31, -1<<16 + 1,
	-1000, -256 + 1, -64 + 1, -32 + 1, -25, -17, -16, -15, -8, -7, -6, -5, -4, -3, -2, -1,
	64, 65, 66, 72, 79, 81, 128 + 1, 255, 256, 257, 256 + 15, 1000, 1<<16 + 1, 1<<31 - 1, 1 << 31, 1<<32 - 1,
	1 << 32, 1<<32 + 1, 1<<32 + 8, 1<<32 + 15, 1<<32 + 17, 1 << 40, math.MaxInt - 1, math.MaxInt,
}

// except returns the numbers from 0 to 63 that are less than first or greater
// than last, and those outside.
func except(first, last int) []int {
	out := slices.Clone(outside)
	for op := range 64 {
		if op < first || op > last {
			out = append(out, op)
		}
	}
	return out
}

// formR holds the opcodes of FormR with the reference of each: it computes the
// result by other means than the package does.
var formR = map[int]func(x, y uint32) uint32{
	1: sum,
	2: difference,
	3: func(x, y uint32) uint32 { return byBits(x, y, func(a, b uint32) bool { return a+b == 2 }) },
	4: func(x, y uint32) uint32 { return byBits(x, y, func(a, b uint32) bool { return a+b >= 1 }) },
	5: func(x, y uint32) uint32 { return byBits(x, y, func(a, b uint32) bool { return a+b == 1 }) },
	6: lessAsNumber,
	7: doubled,
	8: halved,
}

// sum adds in 64 bits and takes the remainder.
func sum(x, y uint32) uint32 { return uint32((int64(x) + int64(y)) % modulus) }

// difference subtracts in 64 bits, where 2^32 keeps it from being negative.
func difference(x, y uint32) uint32 { return uint32((modulus + int64(x) - int64(y)) % modulus) }

// byBits returns the word whose bits are set where holds reports so of the bits
// of x and y.
func byBits(x, y uint32, holds func(a, b uint32) bool) uint32 {
	out, weight := uint64(0), uint64(1)
	for range 32 {
		if holds(x%2, y%2) {
			out += weight
		}
		x, y, weight = x/2, y/2, weight*2
	}
	return uint32(out)
}

// number returns the two's complement number of x.
func number(x uint32) int64 {
	if x >= 0x80000000 {
		return int64(x) - modulus
	}
	return int64(x)
}

func lessAsNumber(x, y uint32) uint32 {
	if number(x) < number(y) {
		return 1
	}
	return 0
}

// doubled doubles x as often as the remainder of y by 32 says.
func doubled(x, y uint32) uint32 {
	v := int64(x)
	for range y % 32 {
		v = v * 2 % modulus
	}
	return uint32(v)
}

// halved halves x as often as the remainder of y by 32 says.
func halved(x, y uint32) uint32 {
	for range y % 32 {
		x /= 2
	}
	return x
}

// checkEval reports a result of Eval other than want.
func checkEval(t *testing.T, op int, x, y, want uint32) {
	t.Helper()
	if got := Eval(op, x, y); got != want {
		t.Errorf("Eval(%d, %#x, %#x) = %#x, want %#x", op, x, y, got, want)
	}
}

// checkBranch reports a result of BranchTaken other than want.
func checkBranch(t *testing.T, op int, x, y uint32, want bool) {
	t.Helper()
	if got := BranchTaken(op, x, y); got != want {
		t.Errorf("BranchTaken(%d, %#x, %#x) = %v, want %v", op, x, y, got, want)
	}
}

// The order of the operands is what the tests of comparisons rely on.
func TestOperandsAscend(t *testing.T) {
	for i := 1; i < len(operands); i++ {
		if number(operands[i-1]) >= number(operands[i]) {
			t.Errorf("%#x stands ahead of %#x", operands[i-1], operands[i])
		}
	}
}

// P8.1: every opcode of FormR with every pair of operands.
func TestEval(t *testing.T) {
	for op, reference := range formR {
		for _, x := range operands {
			for _, y := range operands {
				checkEval(t, op, x, y, reference(x, y))
			}
		}
	}
}

// P8.1: the results are written down here, not computed.
func TestEvalByHand(t *testing.T) {
	cases := []struct {
		op         int
		x, y, want uint32
	}{
		{api.Add, 2, 3, 5},
		{api.Add, 0, 0, 0},
		{api.Add, 0x7fffffff, 1, 0x80000000},
		{api.Add, greatest, 1, 0},
		{api.Add, greatest, greatest, 0xfffffffe},
		{api.Add, 0x80000000, 0x80000000, 0},
		{api.Sub, 5, 3, 2},
		{api.Sub, 3, 5, 0xfffffffe},
		{api.Sub, 0, 1, greatest},
		{api.Sub, 0, greatest, 1},
		{api.Sub, 0x80000000, 1, 0x7fffffff},
		{api.Sub, 7, 7, 0},
		{api.And, 0xff00ff00, 0x0ff00ff0, 0x0f000f00},
		{api.And, greatest, 0x12345678, 0x12345678},
		{api.Or, 0xff00ff00, 0x0ff00ff0, 0xfff0fff0},
		{api.Or, 0, 0x12345678, 0x12345678},
		{api.Xor, 0xff00ff00, 0x0ff00ff0, 0xf0f0f0f0},
		{api.Xor, greatest, 0x12345678, 0xedcba987},
		{api.Slt, greatest, 0, 1},
		{api.Slt, 0, greatest, 0},
		{api.Slt, 0x7fffffff, 0x80000000, 0},
		{api.Slt, 0x80000000, 0x7fffffff, 1},
		{api.Slt, 0x80000000, greatest, 1},
		{api.Slt, greatest, 0x80000000, 0},
		{api.Slt, 0x7fffffff, greatest, 0},
		{api.Slt, greatest, 0x7fffffff, 1},
		{api.Slt, 0x80000000, 0x80000000, 0},
		{api.Slt, 0x7fffffff, 0x7fffffff, 0},
		{api.Slt, greatest, greatest, 0},
		{api.Slt, 0, 0, 0},
		{api.Shl, 0x80000001, 0, 0x80000001},
		{api.Shl, 0x80000001, 1, 2},
		{api.Shl, 0x80000001, 31, 0x80000000},
		{api.Shl, 0x80000001, 32, 0x80000001},
		{api.Shl, 0x80000001, greatest, 0x80000000},
		{api.Shr, 0x80000001, 0, 0x80000001},
		{api.Shr, 0x80000001, 1, 0x40000000},
		{api.Shr, 0x80000001, 31, 1},
		{api.Shr, 0x80000001, 32, 0x80000001},
		{api.Shr, 0x80000001, greatest, 1},
		{api.Shr, 0x80000000, 0xffffffe4, 0x08000000},
	}
	for _, c := range cases {
		checkEval(t, c.op, c.x, c.y, c.want)
	}
}

// P8.1: Eval of every other opcode of a word, of those that there are not, and
// of numbers outside.
func TestEvalOfOtherOpcodes(t *testing.T) {
	for _, op := range except(1, 8) {
		for _, x := range operands {
			for _, y := range operands {
				checkEval(t, op, x, y, 0)
			}
		}
	}
}

// P8.1: a bit that is shifted stands where the amount says, and is gone once it
// leaves the word; zeros come after it.
func TestShiftsOfOneBit(t *testing.T) {
	for at := range 32 {
		for amount := range 32 {
			left, right := uint32(0), uint32(0)
			if at+amount < 32 {
				left = uint32(math.Ldexp(1, at+amount))
			}
			if at >= amount {
				right = uint32(math.Ldexp(1, at-amount))
			}
			bit := uint32(math.Ldexp(1, at))
			checkEval(t, api.Shl, bit, uint32(amount), left)
			checkEval(t, api.Shr, bit, uint32(amount), right)
		}
	}
}

// P8.1: of amounts of 32 and more the low five bits count, whatever stands
// above them.
func TestShiftAmounts(t *testing.T) {
	above := []uint32{0, 32, 64, 96, 128, 256, 1 << 16, 1 << 30, 1 << 31, 0x7fffffe0, 0xffffffe0}
	for _, x := range operands {
		for low := range uint32(32) {
			for _, high := range above {
				checkEval(t, api.Shl, x, high+low, doubled(x, low))
				checkEval(t, api.Shr, x, high+low, halved(x, low))
			}
		}
	}
}

// P8.1: LessSigned, Slt and Blt compare by the order of the operands, and Beq
// and Bne tell equal ones from others.
func TestComparisons(t *testing.T) {
	for i, x := range operands {
		for j, y := range operands {
			want := uint32(0)
			if i < j {
				want = 1
			}
			if got := LessSigned(x, y); got != (i < j) {
				t.Errorf("LessSigned(%#x, %#x) = %v, want %v", x, y, got, i < j)
			}
			checkEval(t, api.Slt, x, y, want)
			checkBranch(t, api.Blt, x, y, i < j)
			checkBranch(t, api.Beq, x, y, i == j)
			checkBranch(t, api.Bne, x, y, i != j)
		}
	}
}

// P8.1: the answers are written down here, not computed.
func TestComparisonsByHand(t *testing.T) {
	cases := []struct {
		x, y        uint32
		less, equal bool
	}{
		{0, 0, false, true},
		{0, 1, true, false},
		{1, 0, false, false},
		{0, greatest, false, false},
		{greatest, 0, true, false},
		{greatest, greatest, false, true},
		{0x7fffffff, 0x7fffffff, false, true},
		{0x80000000, 0x80000000, false, true},
		{0x7fffffff, 0x80000000, false, false},
		{0x80000000, 0x7fffffff, true, false},
		{0x80000000, greatest, true, false},
		{greatest, 0x80000000, false, false},
		{0x80000000, 0, true, false},
		{0, 0x80000000, false, false},
		{greatest, 0x7fffffff, true, false},
		{0x7fffffff, greatest, false, false},
		{0, 0x7fffffff, true, false},
		{0x7fffffff, 0, false, false},
		{0xfffffffe, greatest, true, false},
		{0x80000001, 0x80000000, false, false},
	}
	for _, c := range cases {
		if got := LessSigned(c.x, c.y); got != c.less {
			t.Errorf("LessSigned(%#x, %#x) = %v, want %v", c.x, c.y, got, c.less)
		}
		checkBranch(t, api.Blt, c.x, c.y, c.less)
		checkBranch(t, api.Beq, c.x, c.y, c.equal)
		checkBranch(t, api.Bne, c.x, c.y, !c.equal)
	}
}

// P8.1: BranchTaken of every opcode that is no branch, of those that there are
// not, and of numbers outside.
func TestBranchTakenOfOtherOpcodes(t *testing.T) {
	for _, op := range except(15, 17) {
		for _, x := range operands {
			for _, y := range operands {
				checkBranch(t, op, x, y, false)
			}
		}
	}
}

// P8.2: Sub after Add returns the first operand, and so does Add after Sub.
func TestSubIsTheInverseOfAdd(t *testing.T) {
	for _, x := range operands {
		for _, y := range operands {
			checkEval(t, api.Sub, Eval(api.Add, x, y), y, x)
			checkEval(t, api.Add, Eval(api.Sub, x, y), y, x)
			checkEval(t, api.Sub, Eval(api.Add, x, y), x, y)
		}
	}
}

// P8.2: no number is less than itself, and of two different numbers exactly one
// is less than the other.
func TestOrderIsStrictAndTotal(t *testing.T) {
	for _, x := range operands {
		for _, y := range operands {
			before, after := LessSigned(x, y), LessSigned(y, x)
			switch {
			case x == y && before:
				t.Errorf("%#x is less than itself", x)
			case x != y && before == after:
				t.Errorf("%#x less than %#x: %v, and the other way: %v", x, y, before, after)
			}
		}
	}
}

// P8.2: x before y and y before z gives x before z.
func TestOrderIsTransitive(t *testing.T) {
	for _, x := range operands {
		for _, y := range operands {
			for _, z := range operands {
				if LessSigned(x, y) && LessSigned(y, z) && !LessSigned(x, z) {
					t.Errorf("%#x before %#x before %#x, but not %#x before %#x", x, y, z, x, z)
				}
			}
		}
	}
}

// P8.2: every number with the highest bit set comes before every one without
// it.
func TestHighestBitComesFirst(t *testing.T) {
	pairs := 0
	for _, x := range operands {
		for _, y := range operands {
			if x < 0x80000000 || y >= 0x80000000 {
				continue
			}
			pairs++
			if !LessSigned(x, y) || LessSigned(y, x) {
				t.Errorf("%#x does not come before %#x", x, y)
			}
		}
	}
	if pairs == 0 {
		t.Error("no pair was tried")
	}
}

// P8.2: the order runs through all numbers: each is less than its successor,
// but for the greatest, which is followed by the least.
func TestSuccessors(t *testing.T) {
	const stride = 4093
	for at := int64(0); at < modulus; at += stride {
		checkSuccessor(t, uint32(at))
	}
	for _, x := range operands {
		checkSuccessor(t, x-1)
		checkSuccessor(t, x)
	}
}

func checkSuccessor(t *testing.T, x uint32) {
	t.Helper()
	if want := x != 0x7fffffff; LessSigned(x, x+1) != want {
		t.Errorf("LessSigned(%#x, %#x) = %v, want %v", x, x+1, !want, want)
	}
}
