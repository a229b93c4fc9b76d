package ssz

import (
	"math/bits"

	"keystone/api"
)

// byteBits is how many bits a byte has.
const byteBits = 8

// PutBits: bits as bytes, the first one lowest; with an end: a 1 behind them.
func PutBits(bits []bool, end bool) []byte {
	count := len(bits)
	if end {
		count++
	}
	b := make([]byte, bytesFor(count))
	for i, bit := range bits {
		if bit {
			setBit(b, i)
		}
	}
	if end {
		setBit(b, len(bits))
	}
	return b
}

// TakeBits: bits with an end, at most so many.
func TakeBits(b []byte, limit int) ([]bool, api.Errno) {
	if len(b) == 0 {
		return nil, api.ErrSSZ
	}
	last := len(b) - 1
	if b[last] == 0 {
		return nil, api.ErrSSZ
	}
	end := last*byteBits + bits.Len8(b[last]) - 1
	if end > limit {
		return nil, api.ErrSSZ
	}
	return firstBits(b, end), api.OK
}

// TakeFew: just n bits without an end.
func TakeFew(b []byte, n int) ([]bool, api.Errno) {
	if n < 1 || len(b) != bytesFor(n) {
		return nil, api.ErrSSZ
	}
	used := (n-1)%byteBits + 1
	if b[len(b)-1]>>used != 0 {
		return nil, api.ErrSSZ
	}
	return firstBits(b, n), api.OK
}

// bytesFor is how many bytes so many bits want. It divides ahead of adding, so that no count wraps.
func bytesFor(count int) int {
	if count%byteBits == 0 {
		return count / byteBits
	}
	return count/byteBits + 1
}

func setBit(b []byte, place int) {
	b[place/byteBits] |= 1 << (place % byteBits)
}

func firstBits(b []byte, count int) []bool {
	all := make([]bool, count)
	for i := range all {
		all[i] = b[i/byteBits]>>(i%byteBits)&1 == 1
	}
	return all
}
