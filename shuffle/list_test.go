package shuffle_test

import (
	"math"
	"slices"
	"sync"
	"testing"

	"keystone/api"
	"keystone/shuffle"
)

// P8.1: List, with answers written out.
func TestListByHand(t *testing.T) {
	tests := []struct {
		n    uint64
		seed byte
		want []uint64
	}{
		{0, 0, nil},
		{1, 0, []uint64{0}},
		{2, 0, []uint64{0, 1}},
		{3, 0, []uint64{0, 2, 1}},
		{5, 1, []uint64{3, 0, 2, 1, 4}},
		{10, 0, []uint64{3, 6, 0, 2, 7, 1, 8, 9, 5, 4}},
		{10, 1, []uint64{1, 8, 5, 3, 9, 0, 7, 6, 4, 2}},
		{32, 2, []uint64{4, 17, 22, 2, 30, 21, 18, 12, 11, 3, 14, 13, 31, 23, 8, 9, 0, 1, 25, 6, 5, 29, 27, 7, 10, 19, 26, 24, 16, 28, 20, 15}},
	}
	for _, x := range tests {
		got, errno := shuffle.List(x.n, counted(x.seed))
		if !slices.Equal(got, x.want) || errno != api.OK {
			t.Errorf("List(%d, counted %d) = %v, %d; want %v", x.n, x.seed, got, errno, x.want)
		}
	}
}

// P8.1: places of a list of several digests' bits, with answers written out.
func TestListPlacesByHand(t *testing.T) {
	got, errno := shuffle.List(600, counted(3))
	if len(got) != 600 || errno != api.OK {
		t.Fatalf("List(600) has %d places, %d", len(got), errno)
	}
	want := map[int]uint64{0: 23, 1: 43, 255: 36, 256: 325, 257: 238, 511: 289, 512: 488, 598: 25, 599: 499}
	for k, i := range want {
		if got[k] != i {
			t.Errorf("List(600)[%d] = %d; want %d", k, got[k], i)
		}
	}
}

// isEachOnce tells if a list is each number below its length once.
func isEachOnce(list []uint64) bool {
	seen := make([]bool, len(list))
	for _, i := range list {
		if i >= uint64(len(list)) || seen[i] {
			return false
		}
		seen[i] = true
	}
	return true
}

// checkList holds a list against Index of some of its places (each step-th), and P8.3 against all of it.
func checkList(t *testing.T, n uint64, seed api.Root, step uint64) {
	t.Helper()
	list, errno := shuffle.List(n, seed)
	if uint64(len(list)) != n || errno != api.OK {
		t.Fatalf("List(%d, %x) has %d places, %d", n, seed, len(list), errno)
	}
	if !isEachOnce(list) {
		t.Errorf("List(%d, %x) isn't each number once", n, seed)
	}
	for k := uint64(0); k < n; k += step {
		if want, _ := shuffle.Index(k, n, seed); list[k] != want {
			t.Fatalf("List(%d, %x)[%d] = %d; Index answers %d", n, seed, k, list[k], want)
		}
	}
}

// P8.1, P8.3, P10: every small list is Index place by place, and each number once.
func TestListIsIndex(t *testing.T) {
	for n := range uint64(140) {
		for _, seed := range []api.Root{{}, counted(byte(n))} {
			checkList(t, n, seed, 1)
		}
	}
	for _, n := range []uint64{255, 256, 257, 511, 512, 513, 767, 768, 769, 1023, 1024, 1025} {
		for _, seed := range many(4) {
			checkList(t, n, seed, 1)
		}
	}
}

// P8.1, P8.3, P10: great lists, up to the greatest.
func TestListGreat(t *testing.T) {
	for _, n := range []uint64{1 << 12, 1<<16 - 1, 1 << 16, 1<<16 + 1, 1<<20 - 255, 1<<20 - 1, 1 << 20} {
		checkList(t, n, counted(byte(n)+5), 97)
	}
}

// P8.1: ErrRange of more than 2^20 places, and no list beside it (R3).
func TestListRange(t *testing.T) {
	for _, n := range []uint64{1<<20 + 1, 1 << 21, 1 << 32, 1<<32 + 3, 1 << 40, 1<<40 + 1, 1 << 63, math.MaxUint64} {
		if got, errno := shuffle.List(n, counted(1)); len(got) != 0 || errno != api.ErrRange {
			t.Errorf("List(%d) has %d places, %d; want none, ErrRange", n, len(got), errno)
		}
	}
}

// P8.1: another seed is another order.
func TestListHangsOnSeed(t *testing.T) {
	first, _ := shuffle.List(100, api.Root{})
	for i := range 32 {
		for bit := range 8 {
			seed := api.Root{}
			seed[i] = 1 << bit
			if got, _ := shuffle.List(100, seed); slices.Equal(got, first) {
				t.Errorf("the seed %x has the zero seed's order", seed)
			}
		}
	}
}

// R6, R8: a list is new memory: what is done to it is not to be seen in a later one; calls side by side answer as one alone.
func TestListIsNew(t *testing.T) {
	want, _ := shuffle.List(300, counted(4))
	var wait sync.WaitGroup
	for range 8 {
		wait.Go(func() {
			got, errno := shuffle.List(300, counted(4))
			if !slices.Equal(got, want) || errno != api.OK {
				t.Errorf("List(300) answers otherwise a second time")
			}
			room := got[:cap(got)]
			for k := range room {
				room[k] = 7
			}
		})
	}
	wait.Wait()
	if again, _ := shuffle.List(300, counted(4)); !slices.Equal(again, want) {
		t.Errorf("List(300) answers otherwise once an answer was changed")
	}
}
