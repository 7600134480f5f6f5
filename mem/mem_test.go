package mem

import (
	"bytes"
	"math"
	"testing"
)

const maxAddr = math.MaxUint32

// cells holds the numbers of bytes that a cell may have.
var cells = []int{1, 4}

// words holds values whose four bytes differ, and ones at the edges of bytes.
var words = []uint32{
	0, 1, 0xff, 0x100, 0xffff, 0x10000, 0xffffff, 0x1000000, 0x7fffffff,
	0x80000000, 0xffffffff, 0x01020304, 0xaabbccdd, 0xdeadbeef, 0xffffff00,
}

// exists reports whether each of n bytes from a on is one of size bytes. It
// asks byte by byte, in numbers too wide to wrap around.
func exists(size int, a uint32, n int) bool {
	for i := range uint64(n) {
		if uint64(a)+i >= uint64(size) {
			return false
		}
	}
	return true
}

// lies reports whether n bytes from a on end at the end of size bytes or before
// it.
func lies(size int, a uint32, n uint32) bool {
	return uint64(a)+uint64(n) <= uint64(size)
}

// valueOf is the value of a cell, made by multiplication rather than by shifts.
func valueOf(cell []byte) uint32 {
	sum, weight := uint64(0), uint64(1)
	for _, b := range cell {
		sum += uint64(b) * weight
		weight *= 256
	}
	return uint32(sum)
}

// bytesOf is the low n bytes of v, the least significant first, found by
// division.
func bytesOf(v uint32, n int) []byte {
	out := []byte{}
	for range n {
		out = append(out, byte(v%256))
		v /= 256
	}
	return out
}

// replaced is m with the bytes b from a on, put together from pieces.
func replaced(m []byte, a uint32, b []byte) []byte {
	out := append([]byte{}, m[:a]...)
	out = append(out, b...)
	return append(out, m[int(a)+len(b):]...)
}

// distinct returns a memory of which no two bytes of the first 250 are equal.
func distinct(size int) []byte {
	m := make([]byte, size)
	for i := range m {
		m[i] = byte(i%250)*7 + 0x83
	}
	return m
}

// roomy returns a memory of that size with spare capacity behind it, and the
// whole of its array.
func roomy(size int) (m, all []byte) {
	all = distinct(size + 16)
	return all[:size], all
}

// memories returns small memories: nil, the empty one, and each size up to 12
// without and with spare capacity.
func memories() [][]byte {
	out := [][]byte{nil}
	for size := range 13 {
		m, _ := roomy(size)
		out = append(out, distinct(size), m)
	}
	return out
}

// addresses returns every address of a memory of that size, some behind it, and
// those next to powers of two and to the greatest.
func addresses(size int) []uint32 {
	out := []uint32{}
	for a := range size + 9 {
		out = append(out, uint32(a))
	}
	for _, at := range []uint32{1 << 8, 1 << 16, 1 << 24, 1 << 31} {
		out = append(out, at-1, at, at+1)
	}
	for back := range uint32(17) {
		out = append(out, maxAddr-back)
	}
	return out
}

// isItself reports whether p is the very slice m.
func isItself(p, m []byte) bool {
	if (p == nil) != (m == nil) || len(p) != len(m) || cap(p) != cap(m) {
		return false
	}
	return cap(m) == 0 || &p[:1][0] == &m[:1][0]
}

// P5.1: cells at the last address at which they are in range, and at the first
// at which they are not.
func TestInRangeNamed(t *testing.T) {
	for _, x := range []struct {
		size int
		a    uint32
		n    int
		want bool
	}{
		{0, 0, 1, false}, {0, 0, 4, false},
		{1, 0, 1, true}, {1, 1, 1, false}, {1, 0, 4, false},
		{3, 0, 4, false}, {3, 2, 1, true}, {3, 3, 1, false},
		{4, 0, 4, true}, {4, 1, 4, false}, {4, 3, 4, false}, {4, 4, 4, false},
		{5, 1, 4, true}, {5, 2, 4, false}, {5, 4, 1, true}, {5, 5, 1, false},
		{65536, 65532, 4, true}, {65536, 65533, 4, false},
		{65536, 65535, 1, true}, {65536, 65536, 1, false},
		{math.MaxInt32, math.MaxInt32 - 4, 4, true}, {math.MaxInt32, math.MaxInt32 - 3, 4, false},
		{math.MaxInt32, math.MaxInt32 - 1, 1, true}, {math.MaxInt32, math.MaxInt32, 1, false},
		{math.MaxInt32, 1 << 31, 1, false}, {math.MaxInt32, maxAddr, 4, false},
	} {
		if got := InRange(x.size, x.a, x.n); got != x.want {
			t.Errorf("InRange(%d, %d, %d) = %v, want %v", x.size, x.a, x.n, got, x.want)
		}
	}
}

// P5.1: a cell near the greatest address is out of range of every memory that
// ends before it, and within those that don't.
func TestInRangeNearGreatestAddress(t *testing.T) {
	sizes := []int{
		0, 1, 2, 3, 4, 5, 8, 16, 65536, math.MaxInt32 - 1, math.MaxInt32,
		1 << 31, 1<<32 - 5, 1<<32 - 4, 1<<32 - 2, 1<<32 - 1, 1 << 32, 1<<32 + 1, 1<<32 + 2, 1<<32 + 3, 1<<32 + 4,
		math.MaxInt - 1, math.MaxInt,
	}
	for _, size := range sizes {
		for back := range uint32(20) {
			for _, n := range cells {
				a := maxAddr - back
				if got, want := InRange(size, a, n), exists(size, a, n); got != want {
					t.Errorf("InRange(%d, %#x, %d) = %v, want %v", size, a, n, got, want)
				}
			}
		}
	}
}

// P5.1: cells at every address of small memories and at others.
func TestInRangeEverywhere(t *testing.T) {
	for size := range 20 {
		for _, a := range addresses(size) {
			for _, n := range cells {
				if got, want := InRange(size, a, n), exists(size, a, n); got != want {
					t.Errorf("InRange(%d, %#x, %d) = %v, want %v", size, a, n, got, want)
				}
			}
		}
	}
}

// P5.1: the byte order, aligned and not, and the cells at the ends.
func TestLoadNamed(t *testing.T) {
	m := []byte{0x10, 0x20, 0x30, 0x40, 0x50, 0xff, 0x80}
	for _, x := range []struct {
		a    uint32
		n    int
		want uint32
		ok   bool
	}{
		{0, 4, 0x40302010, true}, {1, 4, 0x50403020, true}, {2, 4, 0xff504030, true},
		{3, 4, 0x80ff5040, true}, {4, 4, 0, false}, {6, 4, 0, false}, {7, 4, 0, false},
		{0, 1, 0x10, true}, {5, 1, 0xff, true}, {6, 1, 0x80, true}, {7, 1, 0, false},
		{maxAddr, 1, 0, false}, {maxAddr, 4, 0, false}, {maxAddr - 2, 4, 0, false}, {maxAddr - 3, 4, 0, false},
		{1 << 31, 1, 0, false}, {1<<16 + 1, 1, 0, false}, {256, 1, 0, false},
	} {
		if v, ok := Load(m, x.a, x.n); v != x.want || ok != x.ok {
			t.Errorf("Load(m, %#x, %d) = %#x, %v, want %#x, %v", x.a, x.n, v, ok, x.want, x.ok)
		}
	}
}

// P5.1: Load at every address of small memories, in agreement with InRange. The
// spare capacity behind a memory is no part of it.
func TestLoadEverywhere(t *testing.T) {
	for _, m := range memories() {
		for _, a := range addresses(len(m)) {
			for _, n := range cells {
				want, in := uint32(0), exists(len(m), a, n)
				if in {
					want = valueOf(m[a:][:n])
				}
				v, ok := Load(m, a, n)
				if v != want || ok != in {
					t.Errorf("Load(%x, %#x, %d) = %#x, %v, want %#x, %v", m, a, n, v, ok, want, in)
				}
				if ok != InRange(len(m), a, n) {
					t.Errorf("Load and InRange differ at %#x of %d bytes", a, len(m))
				}
			}
		}
	}
}

// P5.1: each byte value loads as itself, with no sign.
func TestLoadEveryByte(t *testing.T) {
	for b := range 256 {
		for at := range 4 {
			m := make([]byte, 4)
			m[at] = byte(b)
			if v, ok := Load(m, uint32(at), 1); v != uint32(b) || !ok {
				t.Errorf("byte %#x at %d loads as %#x, %v", b, at, v, ok)
			}
			if v, ok := Load(m, 0, 4); v != valueOf(m) || !ok {
				t.Errorf("the word %x loads as %#x, %v", m, v, ok)
			}
		}
	}
}

// P5.1: named stores; the bytes of the value above the cell stay out.
func TestStoreNamed(t *testing.T) {
	m := []byte{0x10, 0x20, 0x30, 0x40, 0x50, 0x60}
	for _, x := range []struct {
		a    uint32
		n    int
		v    uint32
		want []byte
	}{
		{0, 4, 0x01020304, []byte{0x04, 0x03, 0x02, 0x01, 0x50, 0x60}},
		{1, 4, 0xaabbccdd, []byte{0x10, 0xdd, 0xcc, 0xbb, 0xaa, 0x60}},
		{2, 4, 0xaabbccdd, []byte{0x10, 0x20, 0xdd, 0xcc, 0xbb, 0xaa}},
		{2, 4, 0, []byte{0x10, 0x20, 0, 0, 0, 0}},
		{0, 1, 0xaabbccdd, []byte{0xdd, 0x20, 0x30, 0x40, 0x50, 0x60}},
		{5, 1, 0xaabbccdd, []byte{0x10, 0x20, 0x30, 0x40, 0x50, 0xdd}},
		{3, 1, 0xffffff00, []byte{0x10, 0x20, 0x30, 0x00, 0x50, 0x60}},
		{3, 1, 0x000000ff, []byte{0x10, 0x20, 0x30, 0xff, 0x50, 0x60}},
	} {
		if p, ok := Store(m, x.a, x.n, x.v); !ok || !bytes.Equal(p, x.want) {
			t.Errorf("Store(m, %d, %d, %#x) = %x, %v, want %x", x.a, x.n, x.v, p, ok, x.want)
		}
	}
}

// P5.1, P5.3, P5.4: Store at every address of small memories, in agreement with
// InRange, changes the cell alone; out of range it returns the memory itself.
func TestStoreEverywhere(t *testing.T) {
	for _, m := range memories() {
		for _, a := range addresses(len(m)) {
			for _, n := range cells {
				for _, v := range words {
					p, ok := Store(m, a, n, v)
					if ok != exists(len(m), a, n) || ok != InRange(len(m), a, n) {
						t.Fatalf("Store(%x, %#x, %d) reports %v", m, a, n, ok)
					}
					if !ok && !isItself(p, m) {
						t.Fatalf("Store(%x, %#x, %d) = %x, want the memory itself", m, a, n, p)
					}
					if ok && !bytes.Equal(p, replaced(m, a, bytesOf(v, n))) {
						t.Fatalf("Store(%x, %#x, %d, %#x) = %x", m, a, n, v, p)
					}
				}
			}
		}
	}
}

// P5.2: named writes.
func TestWriteAtNamed(t *testing.T) {
	m := []byte{1, 2, 3, 4}
	for _, x := range []struct {
		a    uint32
		b    []byte
		want []byte
		ok   bool
	}{
		{0, nil, m, true}, {0, []byte{}, m, true}, {3, nil, m, true}, {4, nil, m, true}, {4, []byte{}, m, true},
		{5, nil, m, false}, {5, []byte{}, m, false}, {maxAddr, nil, m, false},
		{0, []byte{9}, []byte{9, 2, 3, 4}, true}, {3, []byte{9}, []byte{1, 2, 3, 9}, true}, {4, []byte{9}, m, false},
		{1, []byte{8, 9}, []byte{1, 8, 9, 4}, true}, {2, []byte{8, 9}, []byte{1, 2, 8, 9}, true}, {3, []byte{8, 9}, m, false},
		{0, []byte{6, 7, 8, 9}, []byte{6, 7, 8, 9}, true}, {1, []byte{6, 7, 8, 9}, m, false},
		{0, []byte{5, 6, 7, 8, 9}, m, false}, {4, []byte{5, 6, 7, 8, 9}, m, false},
		{0, make([]byte, 256), m, false}, {1, make([]byte, 257), m, false}, {0, make([]byte, 65536), m, false},
		{4, make([]byte, 65536), m, false}, {0, make([]byte, 70000), m, false}, {2, make([]byte, 1<<24), m, false},
		{maxAddr, []byte{9}, m, false}, {maxAddr, []byte{8, 9}, m, false}, {maxAddr - 1, []byte{7, 8, 9}, m, false},
		{1 << 31, []byte{9}, m, false}, {1 << 16, []byte{9}, m, false},
	} {
		if p, ok := WriteAt(m, x.a, x.b); ok != x.ok || !bytes.Equal(p, x.want) {
			t.Errorf("WriteAt(m, %#x, %d bytes) = %x, %v, want %x, %v", x.a, len(x.b), p, ok, x.want, x.ok)
		}
	}
}

// P5.2, P5.4: writes of each length at every address of small memories; one
// that doesn't fit returns the memory itself.
func TestWriteAtEverywhere(t *testing.T) {
	for _, m := range memories() {
		for _, a := range addresses(len(m)) {
			for length := range len(m) + 4 {
				b := bytes.Repeat([]byte{0xee, 0xdd, 0xcc}, length)[:length]
				p, ok := WriteAt(m, a, b)
				if ok != lies(len(m), a, uint32(length)) {
					t.Fatalf("WriteAt(%x, %#x, %x) reports %v", m, a, b, ok)
				}
				if !ok && !isItself(p, m) {
					t.Fatalf("WriteAt(%x, %#x, %x) = %x, want the memory itself", m, a, b, p)
				}
				if ok && !bytes.Equal(p, replaced(m, a, b)) {
					t.Fatalf("WriteAt(%x, %#x, %x) = %x", m, a, b, p)
				}
			}
		}
	}
}

// P5.2: bytes that are a part of the memory are written as they were before.
func TestWriteAtOfOwnBytes(t *testing.T) {
	m := []byte{1, 2, 3, 4, 5}
	if p, ok := WriteAt(m, 1, m[:4]); !ok || !bytes.Equal(p, []byte{1, 1, 2, 3, 4}) {
		t.Errorf("writing the first four bytes at 1 gives %x, %v", p, ok)
	}
	if p, ok := WriteAt(m, 0, m[1:]); !ok || !bytes.Equal(p, []byte{2, 3, 4, 5, 5}) {
		t.Errorf("writing the last four bytes at 0 gives %x, %v", p, ok)
	}
}

// P5.2: named reads.
func TestReadAtNamed(t *testing.T) {
	m := []byte{1, 2, 3, 4}
	for _, x := range []struct {
		a, size uint32
		want    []byte
		ok      bool
	}{
		{0, 0, nil, true}, {3, 0, nil, true}, {4, 0, nil, true}, {5, 0, nil, false}, {maxAddr, 0, nil, false},
		{0, 1, []byte{1}, true}, {3, 1, []byte{4}, true}, {4, 1, nil, false},
		{1, 2, []byte{2, 3}, true}, {2, 2, []byte{3, 4}, true}, {3, 2, nil, false},
		{0, 4, []byte{1, 2, 3, 4}, true}, {1, 4, nil, false}, {0, 5, nil, false},
		{0, maxAddr, nil, false}, {1, maxAddr, nil, false}, {2, maxAddr, nil, false}, {4, maxAddr, nil, false},
		{4, maxAddr - 3, nil, false}, {4, maxAddr - 2, nil, false}, {3, 1 << 31, nil, false},
		{maxAddr, 1, nil, false}, {maxAddr, 2, nil, false}, {maxAddr, 5, nil, false}, {maxAddr, maxAddr, nil, false},
		{1 << 31, 1 << 31, nil, false}, {1 << 31, 1<<31 + 1, nil, false}, {1 << 16, 1 << 16, nil, false},
	} {
		if p, ok := ReadAt(m, x.a, x.size); ok != x.ok || !bytes.Equal(p, x.want) {
			t.Errorf("ReadAt(m, %#x, %#x) = %x, %v, want %x, %v", x.a, x.size, p, ok, x.want, x.ok)
		}
	}
}

// P5.2, P5.4: reads of small and great sizes at every address of small
// memories; one that doesn't fit returns nil.
func TestReadAtEverywhere(t *testing.T) {
	for _, m := range memories() {
		for _, a := range addresses(len(m)) {
			for _, size := range addresses(len(m)) {
				p, ok := ReadAt(m, a, size)
				if ok != lies(len(m), a, size) {
					t.Fatalf("ReadAt(%x, %#x, %#x) reports %v", m, a, size, ok)
				}
				if !ok && p != nil {
					t.Fatalf("ReadAt(%x, %#x, %#x) = %x, want nil", m, a, size, p)
				}
				if ok && !bytes.Equal(p, m[a:a+size]) {
					t.Fatalf("ReadAt(%x, %#x, %#x) = %x", m, a, size, p)
				}
			}
		}
	}
}

// P5.1, P5.2: a memory of the greatest size that a machine may have, and one
// that is greater.
func TestGreatMemories(t *testing.T) {
	for _, size := range []int{65536, 70001} {
		m, end := distinct(size), uint32(size)
		p, ok := Store(m, end-4, 4, 0xaabbccdd)
		if !ok || !bytes.Equal(p, append(distinct(size)[:size-4], 0xdd, 0xcc, 0xbb, 0xaa)) {
			t.Errorf("the last word of %d bytes isn't stored", size)
		}
		if v, ok := Load(p, end-4, 4); v != 0xaabbccdd || !ok {
			t.Errorf("the last word of %d bytes is %#x, %v", size, v, ok)
		}
		if _, ok := Load(m, end-3, 4); ok {
			t.Errorf("a word at %d of %d bytes is loaded", end-3, size)
		}
		if all, ok := ReadAt(m, 0, end); !ok || !bytes.Equal(all, m) {
			t.Errorf("%d bytes aren't read", size)
		}
		if all, ok := WriteAt(make([]byte, size), 0, m); !ok || !bytes.Equal(all, m) {
			t.Errorf("%d bytes aren't written", size)
		}
		if _, ok := ReadAt(m, 1, end); ok {
			t.Errorf("%d bytes from 1 on are read", size)
		}
	}
}

// P5.3: a load after a store, for every two cells of a small memory: of the
// same cell it returns what was stored, of one that doesn't overlap what was
// there before, and of one that overlaps the bytes of both.
func TestLoadAfterStore(t *testing.T) {
	m := distinct(11)
	for _, wide := range cells {
		for at := 0; at+wide <= len(m); at++ {
			for _, v := range words {
				p, _ := Store(m, uint32(at), wide, v)
				now := append([]byte{}, m...)
				for i, b := range bytesOf(v, wide) {
					now[at+i] = b
				}
				if got, ok := Load(p, uint32(at), wide); got != valueOf(bytesOf(v, wide)) || !ok {
					t.Errorf("%#x stored in %d bytes loads as %#x, %v", v, wide, got, ok)
				}
				checkCells(t, p, now)
			}
		}
	}
}

// checkCells loads every cell of p and holds it against the bytes that ought to
// be there.
func checkCells(t *testing.T, p, want []byte) {
	t.Helper()
	for _, n := range cells {
		for a := 0; a+n <= len(want); a++ {
			if got, ok := Load(p, uint32(a), n); got != valueOf(want[a:a+n]) || !ok {
				t.Errorf("the cell of %d bytes at %d is %#x, %v, want %x", n, a, got, ok, want[a:a+n])
			}
		}
	}
}

// P5.3: a word loads as it was stored, and a byte as the low byte.
func TestRoundTripNamed(t *testing.T) {
	m := make([]byte, 8)
	m, _ = Store(m, 4, 4, 0xdeadbeef)
	m, _ = Store(m, 0, 4, 0x01020304)
	m, _ = Store(m, 3, 1, 0xffffff7f)
	m, _ = WriteAt(m, 4, []byte{0x11})
	for _, x := range []struct {
		a    uint32
		n    int
		want uint32
	}{{0, 4, 0x7f020304}, {4, 4, 0xdeadbe11}, {2, 4, 0xbe117f02}, {3, 1, 0x7f}, {4, 1, 0x11}, {7, 1, 0xde}} {
		if v, ok := Load(m, x.a, x.n); v != x.want || !ok {
			t.Errorf("Load(%x, %d, %d) = %#x, %v, want %#x", m, x.a, x.n, v, ok, x.want)
		}
	}
}

// P5.4: no call changes its arguments, nor what lies behind them in their
// arrays.
func TestArgumentsAreLeftAlone(t *testing.T) {
	m, all := roomy(9)
	b, allB := roomy(3)
	for _, a := range addresses(len(m)) {
		for _, n := range cells {
			Load(m, a, n)
			Store(m, a, n, 0xaabbccdd)
		}
		WriteAt(m, a, b)
		WriteAt(m, a, nil)
		ReadAt(m, a, 3)
		ReadAt(m, a, 0)
		if !bytes.Equal(all, distinct(25)) || !bytes.Equal(allB, distinct(19)) {
			t.Fatalf("a call at %#x changed its arguments", a)
		}
	}
}

// results returns what calls that succeed make of the memory m and the bytes b.
func results(m, b []byte) [][]byte {
	byteStored, _ := Store(m, 2, 1, 0x99)
	wordStored, _ := Store(m, 1, 4, 0x99887766)
	written, _ := WriteAt(m, 3, b)
	writtenAll, _ := WriteAt(m, 0, m)
	writtenNone, _ := WriteAt(m, 4, nil)
	read, _ := ReadAt(m, 2, 4)
	readAll, _ := ReadAt(m, 0, uint32(len(m)))
	return [][]byte{byteStored, wordStored, written, writtenAll, writtenNone, read, readAll}
}

// P5.4: a change of a result, also behind its end, is not seen in an argument.
func TestChangingResults(t *testing.T) {
	m, all := roomy(9)
	b, allB := roomy(3)
	for i, p := range results(m, b) {
		for at := range p[:cap(p)] {
			p[:cap(p)][at] ^= 0xff
		}
		if !bytes.Equal(all, distinct(25)) || !bytes.Equal(allB, distinct(19)) {
			t.Fatalf("result %d shares memory with an argument", i)
		}
	}
}

// P5.4: a change of an argument is not seen in a result.
func TestChangingArguments(t *testing.T) {
	m, all := roomy(9)
	b, allB := roomy(3)
	want := results(distinct(9), distinct(3))
	got := results(m, b)
	for at := range all {
		all[at] ^= 0xff
	}
	for at := range allB {
		allB[at] ^= 0xff
	}
	for i := range got {
		if !bytes.Equal(got[i], want[i]) {
			t.Errorf("result %d became %x, want %x", i, got[i], want[i])
		}
	}
}

// P5.4: two results of the same call share no memory.
func TestResultsAreNew(t *testing.T) {
	m, b := distinct(9), distinct(3)
	first, second := results(m, b), results(m, b)
	want := results(distinct(9), distinct(3))
	for i := range first {
		for at := range first[i] {
			first[i][at] ^= 0xff
		}
		if !bytes.Equal(second[i], want[i]) {
			t.Errorf("result %d became %x, want %x", i, second[i], want[i])
		}
	}
}

// P1: a number of bytes or a size that the chapter leaves open still gets an
// answer.
func TestOpenArgumentsEnd(t *testing.T) {
	for _, n := range []int{math.MinInt, -1 << 32, -4, -1, 0, 2, 3, 5, 8, 12, 1 << 32, math.MaxInt} {
		for _, m := range memories() {
			for _, a := range addresses(len(m)) {
				Load(m, a, n)
				Store(m, a, n, 0xaabbccdd)
			}
		}
		for _, size := range []int{math.MinInt, -1 << 32, -4, -1, 0, 4, math.MaxInt} {
			InRange(size, 0, n)
			InRange(size, maxAddr, n)
		}
	}
}
