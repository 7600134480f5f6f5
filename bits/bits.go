// Package bits is layer 1: bit fields and sign extension of 32-bit words.
// See shared/doc/01-bits.md.
package bits

const wordBits = 32

// keepLow returns w with all but its low n bits cleared.
//
// A shift by a negative int would panic, so every shift count in this package
// is unsigned: arguments outside the promises still get an answer.
func keepLow[W uint32 | uint64](w W, n int) W {
	return w & (W(1)<<uint(n) - 1)
}

// Extract returns the unsigned value of the field of n bits at bit offset at.
func Extract(w uint32, at, n int) uint32 {
	return keepLow(w>>uint(at), n)
}

// Insert returns w with the field of n bits at bit offset at replaced by the
// low n bits of v.
func Insert(w uint32, at, n int, v uint32) uint32 {
	field := keepLow(^uint32(0), n) << uint(at)
	return w&^field | keepLow(v, n)<<uint(at)
}

// SignExtend returns the value of the low n bits of v, read as an n-bit
// two's-complement number.
func SignExtend(v uint32, n int) int32 {
	unused := uint(wordBits - n)
	return int32(v<<unused) >> unused
}

// FitsSigned reports whether v is representable as an n-bit two's-complement
// number.
func FitsSigned(v int32, n int) bool {
	// Adding half the range makes the representable numbers exactly those of n
	// unsigned bits. In 64 bits the sum is exact for every v, and a negative
	// one converts to a word far too large to fit.
	half := int64(1) << uint(n-1)
	shifted := uint64(int64(v) + half)
	return keepLow(shifted, n) == shifted
}

// LowBits returns the low n bits of the two's-complement representation of v.
func LowBits(v int32, n int) uint32 {
	return keepLow(uint32(v), n)
}
