package shuffle_test

import (
	"math"
	"sync"
	"testing"

	"keystone/api"
	"keystone/shuffle"
)

// P8.1: Index, with answers written out: few places, places on both sides of a digest's 256 bits, and up to the greatest n.
func TestIndexByHand(t *testing.T) {
	tests := []struct {
		i, n uint64
		seed byte
		want uint64
	}{
		{0, 1, 7, 0},
		{0, 2, 0, 0},
		{1, 2, 0, 1},
		{0, 10, 0, 3},
		{9, 10, 0, 4},
		{255, 256, 0, 111},
		{0, 257, 0, 216},
		{256, 257, 0, 77},
		{1000, 65536, 1, 13681},
		{0, 1048576, 1, 679665},
		{1048575, 1048576, 1, 451177},
		{12345678, 4294967296, 2, 2365271640},
		{4294967295, 4294967296, 2, 3913872669},
		{4294967296, 4294967297, 2, 1943133255},
		{0, 1099511627776, 3, 1022113324120},
		{549755813888, 1099511627776, 3, 415666368357},
		{1099511627775, 1099511627776, 3, 765804163097},
		{1099511627774, 1099511627775, 3, 1099511627774},
		{999999999999, 1099511627776, 4, 92522341510},
	}
	for _, x := range tests {
		got, errno := shuffle.Index(x.i, x.n, counted(x.seed))
		if got != x.want || errno != api.OK {
			t.Errorf("Index(%d, %d, counted %d) = %d, %d; want %d", x.i, x.n, x.seed, got, errno, x.want)
		}
	}
}

// sizes are numbers of places: small ones, those around a digest's bits and around a page's bytes, and the greatest.
func sizes() []uint64 {
	all := []uint64{1<<40 - 257, 1<<40 - 256, 1<<40 - 1, 1 << 40}
	for n := range uint64(20) {
		all = append(all, n+1)
	}
	for shift := 5; shift < 40; shift++ {
		n := uint64(1) << shift
		all = append(all, n-1, n, n+1, n+n/3)
	}
	return all
}

// places are some of n: the first, the last, and others between.
func places(n uint64) []uint64 {
	var all []uint64
	for k := range min(n, 6) {
		all = append(all, k, n-1-k, n/7*(k+1))
	}
	return all
}

// P8.1: Index of many sizes, places and seeds is what the words of the chapter say.
func TestIndex(t *testing.T) {
	for _, seed := range append(many(6), api.Root{}, api.Root{31: 1}) {
		for _, n := range sizes() {
			for _, i := range places(n) {
				got, errno := shuffle.Index(i, n, seed)
				if want := modelIndex(i, n, seed); got != want || errno != api.OK {
					t.Fatalf("Index(%d, %d, %x) = %d, %d; want %d", i, n, seed, got, errno, want)
				}
				if got >= n {
					t.Fatalf("Index(%d, %d, %x) = %d, which is no place", i, n, seed, got)
				}
			}
		}
	}
}

// P8.1, P8.3: the rounds undone, the last one first, lead back to where a place came from, so that no two go to one.
func TestIndexBack(t *testing.T) {
	for _, seed := range many(10) {
		for _, n := range sizes() {
			for _, i := range places(n) {
				got, _ := shuffle.Index(i, n, seed)
				back := got
				for r := byte(5); r > 0; r-- {
					back = modelRound(r-1, back, n, seed)
				}
				if back != i {
					t.Fatalf("Index(%d, %d, %x) = %d, to which %d goes", i, n, seed, got, back)
				}
			}
		}
	}
}

// P8.1: ErrRange of no places, of a place that isn't below n, and of more than 2^40; 0 beside it (R3).
func TestIndexRange(t *testing.T) {
	wrong := [][2]uint64{
		{0, 0}, {1, 0}, {math.MaxUint64, 0},
		{1, 1}, {2, 1}, {3, 3}, {4, 3}, {256, 256}, {math.MaxUint64, 3},
		{1 << 40, 1 << 40}, {1<<40 + 1, 1 << 40},
		{0, 1<<40 + 1}, {1, 1<<40 + 1}, {1 << 40, 1<<40 + 1}, {1<<40 + 1, 1<<40 + 1},
		{0, 1 << 41}, {5, 1 << 63}, {0, math.MaxUint64}, {math.MaxUint64 - 1, math.MaxUint64}, {math.MaxUint64, math.MaxUint64},
	}
	for _, x := range wrong {
		for _, seed := range []api.Root{{}, counted(9)} {
			if got, errno := shuffle.Index(x[0], x[1], seed); got != 0 || errno != api.ErrRange {
				t.Errorf("Index(%d, %d) = %d, %d; want 0, ErrRange", x[0], x[1], got, errno)
			}
		}
	}
}

// R8: calls side by side answer as one alone.
func TestIndexSideBySide(t *testing.T) {
	var wait sync.WaitGroup
	for _, seed := range many(16) {
		wait.Go(func() {
			for i := range uint64(300) {
				if got, errno := shuffle.Index(i, 300, seed); got != modelIndex(i, 300, seed) || errno != api.OK {
					t.Errorf("Index(%d, 300, %x) = %d, %d", i, seed, got, errno)
				}
			}
		})
	}
	wait.Wait()
}
