package merkle_test

import (
	"bytes"
	"encoding/hex"
	"math"
	"slices"
	"testing"

	"keystone/api"
	"keystone/merkle"
)

func text(r api.Root) string { return hex.EncodeToString(r[:]) }

// P3.1: Chunks, with answers written out.
func TestChunksByHand(t *testing.T) {
	tests := []struct {
		b    []byte
		want []api.Root
	}{
		{nil, nil},
		{[]byte{}, nil},
		{[]byte{0}, []api.Root{{}}},
		{[]byte{7}, []api.Root{{7}}},
		{[]byte{31: 9}, []api.Root{{31: 9}}},
		{[]byte{32: 9}, []api.Root{{}, {9}}},
		{[]byte{1, 31: 2, 32: 3, 63: 4}, []api.Root{{1, 31: 2}, {3, 31: 4}}},
		{[]byte{1, 31: 2, 32: 3, 63: 4, 64: 5, 65: 6}, []api.Root{{1, 31: 2}, {3, 31: 4}, {5, 6}}},
	}
	for _, x := range tests {
		if got := slices.Collect(merkle.Chunks(x.b)); !slices.Equal(got, x.want) {
			t.Errorf("Chunks(% x) = %x; want %x", x.b, got, x.want)
		}
	}
}

// P3.1: every length: each byte at its place, 0 behind, and no chunk too many.
func TestChunksLengths(t *testing.T) {
	for size := range 5*32 + 2 {
		b := pattern(size)
		var joined []byte
		count := 0
		for chunk := range merkle.Chunks(b) {
			joined = append(joined, chunk[:]...)
			count++
		}
		if want := (size + 31) / 32; count != want {
			t.Errorf("Chunks of %d bytes: %d chunks; want %d", size, count, want)
			continue
		}
		if !bytes.Equal(joined[:size], b) || !bytes.Equal(joined[size:], make([]byte, len(joined)-size)) {
			t.Errorf("Chunks of %d bytes: % x", size, joined)
		}
	}
}

// P3.1: one may break off at each chunk, and go over all of them again, also inside of a going over.
func TestChunksBreakAndAgain(t *testing.T) {
	b := pattern(100)
	chunks := merkle.Chunks(b)
	all := slices.Collect(chunks)
	if len(all) != 4 {
		t.Fatalf("%d chunks; want 4", len(all))
	}
	for stop := range all {
		var seen []api.Root
		for chunk := range chunks {
			seen = append(seen, chunk)
			if len(seen) == stop+1 {
				break
			}
		}
		if !slices.Equal(seen, all[:stop+1]) {
			t.Errorf("broken off at chunk %d: %x", stop, seen)
		}
		if again := slices.Collect(chunks); !slices.Equal(again, all) {
			t.Errorf("again, behind a break at chunk %d: %x", stop, again)
		}
	}
	place := 0
	for outer := range chunks {
		if inner := slices.Collect(chunks); !slices.Equal(inner, all) {
			t.Errorf("inside of chunk %d: %x", place, inner)
		}
		if outer != all[place] {
			t.Errorf("chunk %d = %x; want %x", place, outer, all[place])
		}
		place++
	}
}

// P3.1: none is given any more when one has broken off.
func TestChunksStopWhenTold(t *testing.T) {
	calls := 0
	merkle.Chunks(pattern(200))(func(api.Root) bool {
		calls++
		return false
	})
	if calls != 1 {
		t.Errorf("%d chunks given; want 1", calls)
	}
}

// R6, R8: the bytes stay as they were, spare room isn't read, and bytes that change later don't change the chunks.
func TestChunksLeaveAndDontKeepTheirBytes(t *testing.T) {
	for _, size := range []int{0, 1, 31, 32, 33, 70} {
		room := pattern(size + 64)
		want := slices.Collect(merkle.Chunks(pattern(size)))
		chunks := merkle.Chunks(room[:size])
		if got := slices.Collect(chunks); !slices.Equal(got, want) {
			t.Errorf("Chunks of %d bytes hang on the room behind them: %x", size, got)
		}
		if !bytes.Equal(room, pattern(size+64)) {
			t.Errorf("Chunks of %d bytes changed them, or the room behind", size)
		}
		clear(room)
		if got := slices.Collect(chunks); !slices.Equal(got, want) {
			t.Errorf("Chunks of %d bytes changed with the bytes: %x", size, got)
		}
	}
}

// P3.1: Zero, with answers written out.
func TestZeroByHand(t *testing.T) {
	want := []string{
		"0000000000000000000000000000000000000000000000000000000000000000",
		"f5a5fd42d16a20302798ef6ed309979b43003d2320d9f0e8ea9831a92759fb4b",
		"db56114e00fdd4c1f85c892bf35ac9a89289aaecb1ebd0a96cde606a748b5d71",
		"c78009fdf07fc56a11f122370658a353aaa542ed63e44c4bc15ff4cd105ab33c",
		"536d98837f2dd165a55d5eeae91485954472d56f246df256bf3cae19352a123c",
	}
	for depth, w := range want {
		if got := text(merkle.Zero(depth)); got != w {
			t.Errorf("Zero(%d) = %s; want %s", depth, got, w)
		}
	}
}

// P3.1: Zero of every depth that a tree may have, and of deeper ones.
func TestZeroDepths(t *testing.T) {
	for depth, want := range zeros(300) {
		if got := merkle.Zero(depth); got != want {
			t.Errorf("Zero(%d) = %x; want %x", depth, got, want)
		}
	}
}

// P3.1, P1: below 0 as 0; a depth beyond the document's bound ends all the same.
func TestZeroWrongDepths(t *testing.T) {
	for _, depth := range []int{-1, -2, -63, -64, math.MinInt32, math.MinInt, math.MaxInt32 + 1, math.MaxInt} {
		if got := merkle.Zero(depth); got != (api.Root{}) {
			t.Errorf("Zero(%d) = %x; want the zero root", depth, got)
		}
	}
}

// P3.1: Depth, with answers written out.
func TestDepthByHand(t *testing.T) {
	tests := []struct{ limit, want int }{
		{math.MinInt, 0}, {-1 << 62, 0}, {-5, 0}, {-1, 0},
		{0, 0}, {1, 0}, {2, 1}, {3, 2}, {4, 2}, {5, 3}, {7, 3}, {8, 3}, {9, 4}, {16, 4}, {17, 5}, {32, 5}, {33, 6},
		{1 << 40, 40}, {1<<40 + 1, 41},
		{1 << 61, 61}, {1<<61 + 1, 62}, {1<<62 - 1, 62}, {1 << 62, 62},
		{1<<62 + 1, 62}, {math.MaxInt - 1, 62}, {math.MaxInt, 62},
	}
	for _, x := range tests {
		if got := merkle.Depth(x.limit); got != x.want {
			t.Errorf("Depth(%d) = %d; want %d", x.limit, got, x.want)
		}
	}
}

// P3.1: Depth is the least, about each power of 2 and for all small limits.
func TestDepthIsTheLeast(t *testing.T) {
	var limits []int
	for limit := range 3000 {
		limits = append(limits, limit)
	}
	for shift := range 62 {
		limits = append(limits, 1<<shift-1, 1<<shift, 1<<shift+1)
	}
	for _, limit := range limits {
		want := 0
		for 1<<want < limit {
			want++
		}
		if got := merkle.Depth(limit); got != want {
			t.Errorf("Depth(%d) = %d; want %d", limit, got, want)
		}
	}
}

// P3.2: Mix, with an answer written out.
func TestMixByHand(t *testing.T) {
	if got := text(merkle.Mix(api.Root{}, 0)); got != "f5a5fd42d16a20302798ef6ed309979b43003d2320d9f0e8ea9831a92759fb4b" {
		t.Errorf("Mix of the zero root and 0 = %s", got)
	}
}

// P3.2: Mix is the pair with the number behind, its lowest byte first.
func TestMix(t *testing.T) {
	numbers := []struct {
		n    uint64
		root api.Root
	}{
		{0, api.Root{}},
		{1, api.Root{1}},
		{258, api.Root{2, 1}},
		{1 << 56, api.Root{7: 1}},
		{0x8877665544332211, api.Root{0x11, 0x22, 0x33, 0x44, 0x55, 0x66, 0x77, 0x88}},
		{math.MaxUint64, api.Root{255, 255, 255, 255, 255, 255, 255, 255}},
	}
	roots := append(someLeaves(3), api.Root{}, api.Root{1}, api.Root{31: 1})
	for _, r := range roots {
		for _, x := range numbers {
			if got, want := merkle.Mix(r, x.n), pair(r, x.root); got != want {
				t.Errorf("Mix(%x, %d) = %x; want %x", r, x.n, got, want)
			}
		}
	}
}
