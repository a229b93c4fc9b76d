package merkle_test

import (
	"math"
	"slices"
	"testing"

	"keystone/api"
	"keystone/merkle"
)

// P3.2: trees, written out pair by pair.
func TestTreeByHand(t *testing.T) {
	l := []api.Root{{1}, {2}, {3}, {4}, {5}}
	var none api.Root
	z1 := pair(none, none)
	tests := []struct {
		name   string
		leaves []api.Root
		limit  int
		want   api.Root
	}{
		{"none of 0", nil, 0, none},
		{"none of 1", nil, 1, none},
		{"none of 2", nil, 2, z1},
		{"none of 3", nil, 3, pair(z1, z1)},
		{"one of 1", l[:1], 1, l[0]},
		{"one of 2", l[:1], 2, pair(l[0], none)},
		{"two of 2", l[:2], 2, pair(l[0], l[1])},
		{"two of 3", l[:2], 3, pair(pair(l[0], l[1]), z1)},
		{"three of 3", l[:3], 3, pair(pair(l[0], l[1]), pair(l[2], none))},
		{"four of 4", l[:4], 4, pair(pair(l[0], l[1]), pair(l[2], l[3]))},
		{"five of 5", l, 5, pair(pair(pair(l[0], l[1]), pair(l[2], l[3])), pair(pair(l[4], none), z1))},
	}
	for _, x := range tests {
		if got, e := merkle.Tree(x.leaves, x.limit); e != api.OK || got != x.want {
			t.Errorf("%s: %x, %d; want %x", x.name, got, e, x.want)
		}
	}
}

// P3.2, P10: a tree's root is that of its definition, for all small numbers of leaves and limits.
func TestTreeIsItsDefinition(t *testing.T) {
	for limit := range 70 {
		depth := 0
		for 1<<depth < limit {
			depth++
		}
		for count := range limit + 1 {
			leaves := someLeaves(count)
			want := full(padded(leaves, depth))
			if got, e := merkle.Tree(leaves, limit); e != api.OK || got != want {
				t.Errorf("Tree of %d leaves, limit %d = %x, %d; want %x", count, limit, got, e, want)
			}
		}
	}
}

// P3.2, P10: the same of trees with many leaves.
func TestTreeOfManyLeaves(t *testing.T) {
	for _, count := range []int{1023, 1024, 1025, 3000} {
		leaves := someLeaves(count)
		want := full(padded(leaves, 12))
		if got, e := merkle.Tree(leaves, 4096); e != api.OK || got != want {
			t.Errorf("Tree of %d leaves = %x, %d; want %x", count, got, e, want)
		}
	}
}

// P3.2, P10: the same of trees that are too deep to be written out, up to the greatest limit.
func TestTreeOfDeepLimits(t *testing.T) {
	zero := zeros(62)
	limits := []struct{ limit, depth int }{
		{1 << 20, 20}, {1<<20 + 1, 21}, {1 << 40, 40}, {1<<61 + 1, 62}, {1 << 62, 62}, {1<<62 + 1, 62}, {math.MaxInt, 62},
	}
	for _, x := range limits {
		for _, count := range []int{0, 1, 2, 3, 5, 8, 33} {
			leaves := someLeaves(count)
			want := part(leaves, x.depth, 0, zero)
			if got, e := merkle.Tree(leaves, x.limit); e != api.OK || got != want {
				t.Errorf("Tree of %d leaves, limit %d = %x, %d; want %x", count, x.limit, got, e, want)
			}
		}
	}
}

// P3.2: no leaves are so many zero roots.
func TestTreeOfNoLeavesIsZero(t *testing.T) {
	for shift := range 63 {
		for _, leaves := range [][]api.Root{nil, {}} {
			if got, e := merkle.Tree(leaves, 1<<shift); e != api.OK || got != merkle.Zero(shift) {
				t.Errorf("Tree of no leaves, limit 2^%d = %x, %d", shift, got, e)
			}
		}
	}
}

// P3.2: zero roots handed in count as those that stand behind, any other root doesn't.
func TestTreeZeroLeaves(t *testing.T) {
	short, _ := merkle.Tree(someLeaves(5), 16)
	for more := range 12 {
		leaves := append(someLeaves(5), make([]api.Root, more)...)
		if got, e := merkle.Tree(leaves, 16); e != api.OK || got != short {
			t.Errorf("%d zero roots behind five leaves: %x, %d; want %x", more, got, e, short)
		}
		if more > 0 {
			leaves[len(leaves)-1][31] = 1
			if got, _ := merkle.Tree(leaves, 16); got == short {
				t.Errorf("leaf %d doesn't count", len(leaves)-1)
			}
		}
	}
}

// P3.2, R3: more leaves than the limit, and limits below 0.
func TestTreeErrors(t *testing.T) {
	tests := []struct{ count, limit int }{
		{1, 0}, {2, 1}, {3, 2}, {4, 3}, {5, 4}, {6, 5}, {33, 32}, {100, 99}, {8, 5},
		{0, -1}, {1, -1}, {0, math.MinInt}, {3, math.MinInt}, {0, -1 << 62},
	}
	for _, x := range tests {
		if got, e := merkle.Tree(someLeaves(x.count), x.limit); e != api.ErrLimit || got != (api.Root{}) {
			t.Errorf("Tree of %d leaves, limit %d = %x, %d; want the zero root, ErrLimit", x.count, x.limit, got, e)
		}
	}
}

// R6, R8: the leaves stay as they were, and what stands in spare room behind them doesn't count.
func TestTreeLeavesItsLeaves(t *testing.T) {
	for count := range 10 {
		room := someLeaves(40)
		got, e := merkle.Tree(room[:count], 32)
		if !slices.Equal(room, someLeaves(40)) {
			t.Errorf("Tree of %d leaves changed them, or the room behind", count)
		}
		if want, _ := merkle.Tree(someLeaves(count), 32); e != api.OK || got != want {
			t.Errorf("Tree of %d leaves hangs on the room behind them", count)
		}
	}
}
