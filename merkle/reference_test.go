package merkle_test

import (
	"crypto/sha256"
	"slices"

	"keystone/api"
)

// pair is the digest of two roots, by the library.
func pair(a, b api.Root) api.Root {
	return sha256.Sum256(slices.Concat(a[:], b[:]))
}

// zeros are the roots of trees whose leaves are the zero root, of each depth up to that one.
func zeros(depth int) []api.Root {
	l := []api.Root{{}}
	for len(l) <= depth {
		l = append(l, pair(l[len(l)-1], l[len(l)-1]))
	}
	return l
}

// full is the root of the tree with just these leaves, 2^d of them, by the definition.
func full(leaves []api.Root) api.Root {
	if len(leaves) == 1 {
		return leaves[0]
	}
	half := len(leaves) / 2
	return pair(full(leaves[:half]), full(leaves[half:]))
}

// padded is 2^depth leaves: these, and zero roots behind.
func padded(leaves []api.Root, depth int) []api.Root {
	all := make([]api.Root, 1<<depth)
	copy(all, leaves)
	return all
}

// part is the root at a place of the level that stands so high above the leaves, by the definition; of places without leaves below, that of zero roots, so that deep trees end.
func part(leaves []api.Root, height, place int, zero []api.Root) api.Root {
	if place > (len(leaves)-1)>>height || len(leaves) == 0 {
		return zero[height]
	}
	if height == 0 {
		return leaves[place]
	}
	return pair(part(leaves, height-1, 2*place, zero), part(leaves, height-1, 2*place+1, zero))
}

// someLeaves are n roots that differ, none of them the zero root.
func someLeaves(n int) []api.Root {
	l := make([]api.Root, n)
	for i := range l {
		l[i] = sha256.Sum256([]byte{byte(i), byte(i >> 8), byte(i >> 16)})
	}
	return l
}

// pattern is bytes none of which is 0.
func pattern(size int) []byte {
	b := make([]byte, size)
	for i := range b {
		b[i] = byte(i%251) + 1
	}
	return b
}
