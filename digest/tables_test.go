package digest

import (
	"bytes"
	"math/big"
	"testing"
)

// primes are the first count of them.
func primes(count int) []int64 {
	var l []int64
	for n := int64(2); len(l) < count; n++ {
		prime := true
		for _, p := range l {
			prime = prime && n%p != 0
		}
		if prime {
			l = append(l, n)
		}
	}
	return l
}

// fraction is the first 32 bits behind the point of n's root of that degree: the lowest 32 of the root of n 2^(32 degree), rounded down.
func fraction(n int64, degree uint) uint32 {
	scaled := new(big.Int).Lsh(big.NewInt(n), 32*degree)
	root := new(big.Int)
	for bit := 63; bit >= 0; bit-- {
		next := new(big.Int).SetBit(root, bit, 1)
		power := new(big.Int).Exp(next, big.NewInt(int64(degree)), nil)
		if power.Cmp(scaled) <= 0 {
			root = next
		}
	}
	return uint32(root.Uint64())
}

// P2.1: the numbers are those of the roots of primes.
func TestNumbersAreRootsOfPrimes(t *testing.T) {
	for i, p := range primes(len(starts)) {
		if want := fraction(p, 2); starts[i] != want {
			t.Errorf("H%d = %08x; want %08x", i, starts[i], want)
		}
	}
	for i, p := range primes(len(rounds)) {
		if want := fraction(p, 3); rounds[i] != want {
			t.Errorf("K%d = %08x; want %08x", i, rounds[i], want)
		}
	}
}

// P2.1: the number of bits has 8 bytes, the highest first, also where it is above 2^32: asked here without so many bytes.
func TestEndingOfManyBytes(t *testing.T) {
	tests := []struct {
		size uint64
		want []byte
	}{
		{0, []byte{0, 0, 0, 0, 0, 0, 0, 0}},
		{3, []byte{0, 0, 0, 0, 0, 0, 0, 24}},
		{1<<29 - 1, []byte{0, 0, 0, 0, 0xff, 0xff, 0xff, 0xf8}},
		{1 << 29, []byte{0, 0, 0, 1, 0, 0, 0, 0}},
		{1<<31 - 1, []byte{0, 0, 0, 3, 0xff, 0xff, 0xff, 0xf8}},
	}
	for _, x := range tests {
		rest := bytes.Repeat([]byte{7}, int(x.size%64))
		got := ending(rest, x.size)
		if len(got)%64 != 0 || !bytes.Equal(got[len(got)-8:], x.want) {
			t.Errorf("ending of %d bytes: % x", x.size, got)
		}
	}
}

// P2.1: one block where the mark and the number of bits still fit behind the bytes, two where they don't.
func TestEndingLength(t *testing.T) {
	for left := range 64 {
		want := 64
		if left > 55 {
			want = 128
		}
		got := ending(bytes.Repeat([]byte{7}, left), uint64(left))
		if len(got) != want || got[left] != 0x80 {
			t.Errorf("ending of %d bytes: % x", left, got)
		}
	}
}
