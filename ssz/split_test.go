package ssz_test

import (
	"bytes"
	"math"
	"slices"
	"testing"

	"keystone/api"
	"keystone/ssz"
)

// collect is the elements that an iterator gives, each with bytes of its own.
func collect(seq func(func([]byte) bool)) [][]byte {
	var out [][]byte
	seq(func(b []byte) bool {
		out = append(out, bytes.Clone(b))
		return true
	})
	return out
}

// P4.3: Split, with answers written out.
func TestSplitByHand(t *testing.T) {
	b := []byte{1, 2, 3, 4, 5, 6}
	tests := []struct {
		b           []byte
		size, limit int
		want        [][]byte
		errno       api.Errno
	}{
		{nil, 1, 0, nil, api.OK},
		{[]byte{}, 3, 5, nil, api.OK},
		{nil, math.MaxInt, 0, nil, api.OK},
		{b, 1, 6, [][]byte{{1}, {2}, {3}, {4}, {5}, {6}}, api.OK},
		{b, 2, 3, [][]byte{{1, 2}, {3, 4}, {5, 6}}, api.OK},
		{b, 3, 2, [][]byte{{1, 2, 3}, {4, 5, 6}}, api.OK},
		{b, 6, 1, [][]byte{{1, 2, 3, 4, 5, 6}}, api.OK},
		{b, 2, math.MaxInt, [][]byte{{1, 2}, {3, 4}, {5, 6}}, api.OK},
		{b, 1, 5, nil, api.ErrSSZ},
		{b, 2, 2, nil, api.ErrSSZ},
		{b, 6, 0, nil, api.ErrSSZ},
		{b, 4, 9, nil, api.ErrSSZ},
		{b, 5, 9, nil, api.ErrSSZ},
		{b, 7, 9, nil, api.ErrSSZ},
		{b, 12, 9, nil, api.ErrSSZ},
		{b, math.MaxInt, 9, nil, api.ErrSSZ},
		{b, 0, 9, nil, api.ErrSSZ},
		{b, -1, 9, nil, api.ErrSSZ},
		{b, -6, 9, nil, api.ErrSSZ},
		{b, math.MinInt, 9, nil, api.ErrSSZ},
		{b, 6, -1, nil, api.ErrSSZ},
		{b, 6, math.MinInt, nil, api.ErrSSZ},
		{nil, 0, 9, nil, api.ErrSSZ},
		{nil, -1, 9, nil, api.ErrSSZ},
		{nil, 1, -1, nil, api.ErrSSZ},
	}
	for _, x := range tests {
		seq, errno := ssz.Split(x.b, x.size, x.limit)
		if errno != x.errno || (seq == nil) != (x.errno != api.OK) {
			t.Errorf("Split(% x, %d, %d): error %d, none: %v; want %d", x.b, x.size, x.limit, errno, seq == nil, x.errno)
			continue
		}
		if seq != nil && !sameParts(collect(seq), x.want) {
			t.Errorf("Split(% x, %d, %d) = % x", x.b, x.size, x.limit, collect(seq))
		}
	}
}

// P4.3: every length, size and limit, against the words.
func TestSplitAgainstWords(t *testing.T) {
	for length := range 20 {
		for size := -1; size < 22; size++ {
			for limit := -1; limit < 22; limit++ {
				b := pattern(length)
				want := size >= 1 && length%size == 0 && length/size <= limit
				seq, errno := ssz.Split(b, size, limit)
				if (errno == api.OK) != want {
					t.Errorf("Split of %d bytes, size %d, limit %d: %d", length, size, limit, errno)
					continue
				}
				if !want {
					continue
				}
				parts := collect(seq)
				if len(parts) != length/size || !bytes.Equal(bytes.Join(parts, nil), b) {
					t.Errorf("Split of %d bytes, size %d: % x", length, size, parts)
				}
			}
		}
	}
}

// P4.3: one may break off at each element, and go over them again, also inside of a going over.
func TestSplitBreakAndAgain(t *testing.T) {
	seq, _ := ssz.Split(pattern(12), 3, 4)
	all := collect(seq)
	for stop := range all {
		var seen [][]byte
		for one := range seq {
			seen = append(seen, one)
			if len(seen) == stop+1 {
				break
			}
		}
		if !sameParts(seen, all[:stop+1]) {
			t.Errorf("broken off at %d: % x", stop, seen)
		}
		if again := collect(seq); !sameParts(again, all) {
			t.Errorf("again, behind a break at %d: % x", stop, again)
		}
	}
	place := 0
	for outer := range seq {
		if inner := collect(seq); !sameParts(inner, all) {
			t.Errorf("inside of %d: % x", place, inner)
		}
		if !bytes.Equal(outer, all[place]) {
			t.Errorf("element %d = % x", place, outer)
		}
		place++
	}
}

// R6: the bytes stay, aren't kept, and elements are memory of their own without spare room.
func TestSplitMemory(t *testing.T) {
	room := pattern(20)
	seq, _ := ssz.Split(room[:12], 3, 4)
	want := collect(seq)
	if !bytes.Equal(room, pattern(20)) {
		t.Error("Split changed its bytes")
	}
	clear(room)
	kept := slices.Collect(seq)
	if !sameParts(kept, want) {
		t.Errorf("behind a change of the bytes: % x", kept)
	}
	for i, one := range kept {
		noSpare(t, "Split", one)
		clear(one)
		_ = append(one, 0xee)
		if !sameParts(kept[i+1:], want[i+1:]) {
			t.Errorf("elements behind %d changed with it", i)
		}
	}
	if again := collect(seq); !sameParts(again, want) {
		t.Errorf("again, behind a change of the elements: % x", again)
	}
	place := 0
	for one := range seq {
		if !bytes.Equal(one, want[place]) {
			t.Errorf("element %d = % x", place, one)
		}
		clear(one)
		_ = append(one, 0xee, 0xee, 0xee)
		place++
	}
}
