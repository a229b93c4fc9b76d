// Package num is layer 1: numbers that don't wrap, roots of squares, bytes: see shared/doc/01-num.md.
package num

import (
	"math"
	"math/bits"
)

// wordBytes is how many bytes a number has.
const wordBytes = 8

// Add: the sum; false: it doesn't fit.
func Add(a, b uint64) (uint64, bool) {
	sum, carry := bits.Add64(a, b, 0)
	if carry != 0 {
		return 0, false
	}
	return sum, true
}

// Sub: the difference; false: it is below 0.
func Sub(a, b uint64) (uint64, bool) {
	if a < b {
		return 0, false
	}
	return a - b, true
}

// Mul: the product; false: it doesn't fit.
func Mul(a, b uint64) (uint64, bool) {
	high, low := bits.Mul64(a, b)
	if high != 0 {
		return 0, false
	}
	return low, true
}

// Div: the quotient, rounded down; false: by 0.
func Div(a, b uint64) (uint64, bool) {
	if b == 0 {
		return 0, false
	}
	return a / b, true
}

// Less: the difference, at least 0.
func Less(a, b uint64) uint64 {
	difference, _ := Sub(a, b)
	return difference
}

// Most: the sum, at most the greatest number.
func Most(a, b uint64) uint64 {
	sum, ok := Add(a, b)
	if !ok {
		return math.MaxUint64
	}
	return sum
}

// Root: the greatest number whose square is at most n.
func Root(n uint64) uint64 {
	root := uint64(0)
	// No root has more than 32 bits, so no square that is tried wraps.
	for bit := uint64(1) << 31; bit != 0; bit >>= 1 {
		next := root | bit
		if next*next <= n {
			root = next
		}
	}
	return root
}

// Put: a number's size lowest bytes, the lowest first; behind the eighth 0.
func Put(n uint64, size int) []byte {
	// The document promises nothing of answers beyond 2^31 - 1 bytes; none at all is kinder than a panic.
	if size < 1 || size > math.MaxInt32 {
		return nil
	}
	b := make([]byte, size)
	for i := range min(size, wordBytes) {
		b[i] = byte(n >> (8 * i))
	}
	return b
}

// Take: the number of up to eight bytes, the lowest first.
func Take(b []byte) uint64 {
	n := uint64(0)
	for i := range min(len(b), wordBytes) {
		n |= uint64(b[i]) << (8 * i)
	}
	return n
}
