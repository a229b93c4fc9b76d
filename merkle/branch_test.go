package merkle_test

import (
	"math"
	"slices"
	"testing"

	"keystone/api"
	"keystone/merkle"
)

// P3.3: branches, written out.
func TestBranchByHand(t *testing.T) {
	l := []api.Root{{1}, {2}, {3}, {4}, {5}}
	var none api.Root
	z1 := pair(none, none)
	p01, p23, p4 := pair(l[0], l[1]), pair(l[2], l[3]), pair(l[4], none)
	tests := []struct {
		name         string
		leaves       []api.Root
		depth, index int
		want         []api.Root
	}{
		{"no leaf, depth 0", nil, 0, 0, nil},
		{"one leaf, depth 0", l[:1], 0, 0, nil},
		{"no leaves, depth 2", nil, 2, 3, []api.Root{none, z1}},
		{"left of two", l[:2], 1, 0, []api.Root{l[1]}},
		{"right of two", l[:2], 1, 1, []api.Root{l[0]}},
		{"right of one", l[:1], 1, 1, []api.Root{l[0]}},
		{"left of one", l[:1], 1, 0, []api.Root{none}},
		{"the third of four", l[:4], 2, 2, []api.Root{l[3], p01}},
		{"the first of five", l, 3, 0, []api.Root{l[1], p23, pair(p4, z1)}},
		{"the fourth of five", l, 3, 3, []api.Root{l[2], p01, pair(p4, z1)}},
		{"the fifth of five", l, 3, 4, []api.Root{none, z1, pair(p01, p23)}},
		{"the place behind five", l, 3, 5, []api.Root{l[4], z1, pair(p01, p23)}},
		{"the last place of eight", l, 3, 7, []api.Root{none, p4, pair(p01, p23)}},
	}
	for _, x := range tests {
		if got, e := merkle.Branch(x.leaves, x.depth, x.index); e != api.OK || !slices.Equal(got, x.want) {
			t.Errorf("%s: %x, %d; want %x", x.name, got, e, x.want)
		}
	}
}

// P3.3, P3.4: every branch of every small tree is its neighbours by the definition, and verifies its place, to the tree's root.
func TestBranchOfEachLeaf(t *testing.T) {
	zero := zeros(6)
	for depth := range 6 {
		for count := range 1<<depth + 1 {
			leaves := someLeaves(count)
			all := padded(leaves, depth)
			root, e := merkle.Tree(leaves, 1<<depth)
			if e != api.OK || root != full(all) {
				t.Fatalf("Tree of %d leaves, depth %d: %d", count, depth, e)
			}
			for index := range all {
				branch, e := merkle.Branch(leaves, depth, index)
				checkBranch(t, leaves, depth, index, zero, branch, e)
				if !merkle.Verify(all[index], branch, uint64(index), root) {
					t.Errorf("%d leaves, depth %d, place %d: not verified", count, depth, index)
				}
			}
		}
	}
}

// checkBranch holds a branch against the neighbours that the definition gives.
func checkBranch(t *testing.T, leaves []api.Root, depth, index int, zero, got []api.Root, e api.Errno) {
	t.Helper()
	if e != api.OK || len(got) != depth {
		t.Errorf("%d leaves, depth %d, place %d: %d roots, %d", len(leaves), depth, index, len(got), e)
		return
	}
	for height, r := range got {
		place := index / (1 << height)
		neighbour := place + 1 - 2*(place%2)
		if want := part(leaves, height, neighbour, zero); r != want {
			t.Errorf("%d leaves, depth %d, place %d, height %d: %x; want %x", len(leaves), depth, index, height, r, want)
		}
	}
}

// P3.3, P3.4: the same of deep trees, at places among the leaves and far behind them.
func TestBranchOfDeepTrees(t *testing.T) {
	zero := zeros(40)
	for _, depth := range []int{6, 12, 31, 32, 33, 39, 40} {
		for _, count := range []int{0, 1, 5, 33} {
			leaves := someLeaves(count)
			root, e := merkle.Tree(leaves, 1<<depth)
			if e != api.OK {
				t.Fatalf("Tree of %d leaves, depth %d: %d", count, depth, e)
			}
			for _, index := range []int{0, 1, 2, 4, 31, 32, 33, 34, 63, 1<<depth - 2, 1<<depth - 1, 1 << (depth - 1)} {
				branch, e := merkle.Branch(leaves, depth, index)
				checkBranch(t, leaves, depth, index, zero, branch, e)
				if !merkle.Verify(part(leaves, 0, index, zero), branch, uint64(index), root) {
					t.Errorf("%d leaves, depth %d, place %d: not verified", count, depth, index)
				}
			}
		}
	}
}

// P3.3, R3: what is outside its range.
func TestBranchErrors(t *testing.T) {
	tests := []struct{ count, depth, index int }{
		{0, -1, 0}, {1, -1, 0}, {0, math.MinInt, 0}, {0, 41, 0}, {1, 41, 1}, {0, 62, 0}, {0, 63, 0}, {0, 64, 0}, {0, math.MaxInt, 0},
		{0, 0, -1}, {0, 0, 1}, {1, 0, 1}, {2, 1, 2}, {2, 1, -1}, {3, 2, 4}, {4, 2, 5}, {4, 3, 8}, {4, 5, 32},
		{0, 40, 1 << 40}, {1, 40, 1<<40 + 1}, {1, 40, math.MaxInt}, {1, 40, math.MinInt}, {1, 3, math.MinInt}, {1, 3, -8},
		{2, 0, 0}, {3, 1, 0}, {3, 1, 1}, {5, 2, 0}, {5, 2, 3}, {9, 3, 4}, {33, 5, 31},
		{2, -1, -1}, {5, 41, -1}, {5, 2, 9},
	}
	for _, x := range tests {
		if got, e := merkle.Branch(someLeaves(x.count), x.depth, x.index); e != api.ErrRange || len(got) != 0 {
			t.Errorf("Branch of %d leaves, depth %d, index %d: %d roots, %d; want none, ErrRange", x.count, x.depth, x.index, len(got), e)
		}
	}
}

// P3.3: the greatest that are allowed.
func TestBranchAtItsEdges(t *testing.T) {
	tests := []struct{ count, depth, index int }{
		{1, 0, 0}, {2, 1, 1}, {4, 2, 3}, {8, 3, 7}, {32, 5, 31}, {0, 40, 1<<40 - 1}, {3, 40, 0},
	}
	for _, x := range tests {
		if got, e := merkle.Branch(someLeaves(x.count), x.depth, x.index); e != api.OK || len(got) != x.depth {
			t.Errorf("Branch of %d leaves, depth %d, index %d: %d roots, %d", x.count, x.depth, x.index, len(got), e)
		}
	}
}

// R6, R8: the leaves stay as they were, spare room isn't read, and the answer is new memory.
func TestBranchIsNewMemory(t *testing.T) {
	room := someLeaves(12)
	first, _ := merkle.Branch(room[:5], 3, 4)
	if alone, _ := merkle.Branch(someLeaves(5), 3, 4); !slices.Equal(first, alone) {
		t.Error("Branch hangs on the room behind the leaves")
	}
	second, _ := merkle.Branch(room[:5], 3, 4)
	want := slices.Clone(second)
	for i := range first[:cap(first)] {
		first[:cap(first)][i] = api.Root{0xee}
	}
	if !slices.Equal(second, want) {
		t.Error("two answers of Branch share memory")
	}
	if !slices.Equal(room, someLeaves(12)) {
		t.Error("Branch changed its leaves, or shares memory with them")
	}
}

// R5: nil and no leaves are the same.
func TestBranchOfNil(t *testing.T) {
	a, e := merkle.Branch(nil, 4, 9)
	b, f := merkle.Branch([]api.Root{}, 4, 9)
	if e != api.OK || f != api.OK || !slices.Equal(a, b) || !slices.Equal(a, zeros(3)) {
		t.Errorf("Branch of no leaves: %x, %d and %x, %d", a, e, b, f)
	}
}

// P3.3: Verify, written out.
func TestVerifyByHand(t *testing.T) {
	leaf, a, b := api.Root{1}, api.Root{2}, api.Root{3}
	two := []api.Root{a, b}
	tests := []struct {
		name   string
		branch []api.Root
		index  uint64
		root   api.Root
		want   bool
	}{
		{"no branch", nil, 0, leaf, true},
		{"an empty branch", []api.Root{}, 0, leaf, true},
		{"no branch, some place", nil, math.MaxUint64, leaf, true},
		{"no branch, another root", nil, 0, a, false},
		{"left", two[:1], 0, pair(leaf, a), true},
		{"right", two[:1], 1, pair(a, leaf), true},
		{"left, told as right", two[:1], 1, pair(leaf, a), false},
		{"right, told as left", two[:1], 0, pair(a, leaf), false},
		{"bits above the branch", two[:1], 2, pair(leaf, a), true},
		{"bits above the branch, right", two[:1], 1<<63 + 1, pair(a, leaf), true},
		{"place 0", two, 0, pair(pair(leaf, a), b), true},
		{"place 1", two, 1, pair(pair(a, leaf), b), true},
		{"place 2", two, 2, pair(b, pair(leaf, a)), true},
		{"place 3", two, 3, pair(b, pair(a, leaf)), true},
		{"place 1 told as 2", two, 2, pair(pair(a, leaf), b), false},
		{"the root of a part", two, 0, pair(leaf, a), false},
		{"a branch upside down", []api.Root{b, a}, 0, pair(pair(leaf, a), b), false},
	}
	for _, x := range tests {
		if got := merkle.Verify(leaf, x.branch, x.index, x.root); got != x.want {
			t.Errorf("%s: %v; want %v", x.name, got, x.want)
		}
	}
}

// P3.3: bits from 64 on are 0, and each one below counts.
func TestVerifyLongBranch(t *testing.T) {
	branch := someLeaves(200)
	leaf := api.Root{9}
	indices := []uint64{0, 1, 2, 1 << 31, 1 << 32, 1 << 62, 1 << 63, math.MaxUint64, math.MaxUint64 - 1, 0x123456789abcdef0}
	for _, length := range []int{63, 64, 65, 66, 127, 128, 129, 200} {
		for _, index := range indices {
			root := leaf
			for i, r := range branch[:length] {
				if i < 64 && index/(1<<i)%2 == 1 {
					root = pair(r, root)
				} else {
					root = pair(root, r)
				}
			}
			if !merkle.Verify(leaf, branch[:length], index, root) {
				t.Errorf("%d roots, index %d: not verified", length, index)
			}
			if merkle.Verify(leaf, branch[:length], index^1<<17, root) {
				t.Errorf("%d roots, index %d: verified at another place", length, index)
			}
		}
	}
}

// P3.3: one wrong bit, of the leaf, the root or a root of the branch, or a wrong place, verifies nothing.
func TestVerifyRefusesWrongThings(t *testing.T) {
	leaves := someLeaves(11)
	root, _ := merkle.Tree(leaves, 16)
	for index := range leaves {
		branch, _ := merkle.Branch(leaves, 4, index)
		place := uint64(index)
		if !merkle.Verify(leaves[index], branch, place, root) {
			t.Fatalf("place %d: not verified", index)
		}
		for at := range 32 {
			leaf, other := leaves[index], root
			leaf[at] ^= 1
			other[at] ^= 0x80
			if merkle.Verify(leaf, branch, place, root) || merkle.Verify(leaves[index], branch, place, other) {
				t.Errorf("place %d: a wrong byte %d is verified", index, at)
			}
			for i := range branch {
				wrong := slices.Clone(branch)
				wrong[i][at] ^= 4
				if merkle.Verify(leaves[index], wrong, place, root) {
					t.Errorf("place %d: a branch wrong at %d is verified", index, i)
				}
			}
		}
		for elsewhere := range leaves {
			if elsewhere != index && merkle.Verify(leaves[index], branch, uint64(elsewhere), root) {
				t.Errorf("place %d: verified at place %d", index, elsewhere)
			}
		}
		if merkle.Verify(leaves[index], branch[:3], place, root) || merkle.Verify(leaves[index], append(slices.Clone(branch), root), place, root) {
			t.Errorf("place %d: a branch of another length is verified", index)
		}
	}
}

// R6: Verify leaves its branch as it was.
func TestVerifyLeavesItsBranch(t *testing.T) {
	branch := someLeaves(70)
	merkle.Verify(api.Root{1}, branch[:66], 12345, api.Root{2})
	if !slices.Equal(branch, someLeaves(70)) {
		t.Error("Verify changed its branch, or the room behind")
	}
}
