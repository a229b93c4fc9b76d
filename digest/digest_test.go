package digest_test

import (
	"bytes"
	"crypto/sha256"
	"encoding/hex"
	"strings"
	"testing"

	"keystone/api"
	"keystone/digest"
)

// pattern is bytes of which no two blocks are alike, nor a block and its reverse.
func pattern(size int) []byte {
	b := make([]byte, size)
	x := uint32(size)*2654435761 + 1
	for i := range b {
		x = x*1664525 + 1013904223
		b[i] = byte(x >> 24)
	}
	return b
}

// counted is the root whose bytes count up from first.
func counted(first byte) api.Root {
	var r api.Root
	for i := range r {
		r[i] = first + byte(i)
	}
	return r
}

// against holds Of against the library's digest.
func against(t *testing.T, name string, b []byte) {
	t.Helper()
	if got, want := digest.Of(b), api.Root(sha256.Sum256(b)); got != want {
		t.Errorf("Of(%s) = %x; want %x", name, got, want)
	}
}

// P2.1: Of, with answers written out.
func TestOfByHand(t *testing.T) {
	tests := []struct{ name, text, want string }{
		{"no bytes", "", "e3b0c44298fc1c149afbf4c8996fb92427ae41e4649b934ca495991b7852b855"},
		{"abc", "abc", "ba7816bf8f01cfea414140de5dae2223b00361a396177a9cb410ff61f20015ad"},
		{"56 bytes", "abcdbcdecdefdefgefghfghighijhijkijkljklmklmnlmnomnopnopq",
			"248d6a61d20638b8e5c026930c3e6039a33ce45964ff2167f6ecedd419db06c1"},
		{"112 bytes", "abcdefghbcdefghicdefghijdefghijkefghijklfghijklmghijklmnhijklmnoijklmnopjklmnopqklmnopqrlmnopqrsmnopqrstnopqrstu",
			"cf5b16a778af8380036ce59e7b0492370b249b11e8f07a51afac45037afee9d1"},
		{"a million a", strings.Repeat("a", 1000000), "cdc76e5c9914fb9281a1c7e284d73e67f1809a48a497200e046d39ccc7112cd0"},
	}
	for _, x := range tests {
		if got := hex.EncodeToString(sliced(digest.Of([]byte(x.text)))); got != x.want {
			t.Errorf("Of(%s) = %s; want %s", x.name, got, x.want)
		}
	}
}

func sliced(r api.Root) []byte { return r[:] }

// P2.1: every length about the edges of one to five blocks, of bytes that differ, of 0 alone and of 255 alone.
func TestOfLengths(t *testing.T) {
	for size := range 5*64 + 2 {
		against(t, "a pattern", pattern(size))
		against(t, "bytes 0", make([]byte, size))
		against(t, "bytes 255", bytes.Repeat([]byte{255}, size))
	}
}

// P2.1: lengths whose number of bits has two, three and four bytes.
func TestOfLongBytes(t *testing.T) {
	for _, size := range []int{8191, 8192, 8193, api.MaxBytes - 1, api.MaxBytes, api.MaxBytes + 1, 1<<21 - 1, 1 << 21, 1<<21 + 55, 1<<21 + 56} {
		against(t, "a long pattern", pattern(size))
	}
}

// P2.1: each bit of two blocks counts.
func TestOfEachBit(t *testing.T) {
	b := pattern(128)
	seen := map[api.Root]int{digest.Of(b): -1}
	for i := range 8 * len(b) {
		b[i/8] ^= 1 << (i % 8)
		against(t, "a pattern with a bit turned", b)
		r := digest.Of(b)
		if other, ok := seen[r]; ok {
			t.Errorf("bits %d and %d: one digest", other, i)
		}
		seen[r] = i
		b[i/8] ^= 1 << (i % 8)
	}
}

// P2.1: bytes 0 at the end, or the mark itself there, are no padding.
func TestOfTellsEndingsApart(t *testing.T) {
	seen := map[api.Root]string{}
	for _, text := range []string{"", "\x00", "\x00\x00", "\x80", "\x80\x00", "a", "a\x00", "a\x80", "a\x80\x00", strings.Repeat("\x00", 64)} {
		r := digest.Of([]byte(text))
		if other, ok := seen[r]; ok {
			t.Errorf("%q and %q: one digest", other, text)
		}
		seen[r] = text
		against(t, "an ending", []byte(text))
	}
}

// R5: nil and no bytes are the same.
func TestOfNil(t *testing.T) {
	if digest.Of(nil) != digest.Of([]byte{}) {
		t.Error("Of(nil) is not Of of no bytes")
	}
	against(t, "nil", nil)
}

// R6, R8: the bytes stay as they were, and spare room is neither looked at nor written.
func TestOfLeavesItsBytes(t *testing.T) {
	for _, size := range []int{0, 1, 55, 56, 63, 64, 65, 119, 120, 128} {
		room := pattern(size + 200)
		before := bytes.Clone(room)
		got := digest.Of(room[:size])
		if !bytes.Equal(room, before) {
			t.Errorf("Of of %d bytes changed them, or the room behind", size)
		}
		if want := digest.Of(room[:size:size]); got != want {
			t.Errorf("Of of %d bytes hangs on the room behind them", size)
		}
		against(t, "bytes with room behind", room[:size])
	}
}

// R8: calls leave nothing behind for later ones.
func TestOfAnswersAnew(t *testing.T) {
	first := digest.Of([]byte("abc"))
	digest.Of(pattern(1000))
	digest.Pair(counted(1), counted(2))
	if again := digest.Of([]byte("abc")); again != first {
		t.Errorf("Of(abc) = %x, later %x", first, again)
	}
}

// P2.1: Pair, with answers written out.
func TestPairByHand(t *testing.T) {
	var zero api.Root
	if got := hex.EncodeToString(sliced(digest.Pair(zero, zero))); got != "f5a5fd42d16a20302798ef6ed309979b43003d2320d9f0e8ea9831a92759fb4b" {
		t.Errorf("Pair of zero roots = %s", got)
	}
	if got := hex.EncodeToString(sliced(digest.Pair(counted(0), counted(32)))); got != "fdeab9acf3710362bd2658cdc9a29e8f9c757fcf9811603a8c447cd1d9151108" {
		t.Errorf("Pair of the bytes 0 to 63 = %s", got)
	}
}

// P2.1: Pair is Of the 64 bytes, a's first.
func TestPairIsOfBoth(t *testing.T) {
	roots := []api.Root{{}, {1}, {31: 1}, counted(0), counted(100), counted(224), digest.Of(nil), digest.Of([]byte("abc"))}
	for _, a := range roots {
		for _, b := range roots {
			both := append(append([]byte{}, a[:]...), b[:]...)
			got := digest.Pair(a, b)
			if want := api.Root(sha256.Sum256(both)); got != want {
				t.Errorf("Pair(%x, %x) = %x; want %x", a, b, got, want)
			}
			if got != digest.Of(both) {
				t.Errorf("Pair(%x, %x) is not Of both", a, b)
			}
			if a != b && got == digest.Pair(b, a) {
				t.Errorf("Pair(%x, %x) is that of the two the other way round", a, b)
			}
		}
	}
}

// P2.1: Hex, with answers written out.
func TestHexByHand(t *testing.T) {
	tests := []struct {
		r    api.Root
		want string
	}{
		{api.Root{}, strings.Repeat("0", 64)},
		{api.Root{0x01}, "01" + strings.Repeat("0", 62)},
		{api.Root{0x10}, "10" + strings.Repeat("0", 62)},
		{api.Root{31: 0xaf}, strings.Repeat("0", 62) + "af"},
		{api.Root([]byte(strings.Repeat("\xff", 32))), strings.Repeat("f", 64)},
		{counted(0), "000102030405060708090a0b0c0d0e0f101112131415161718191a1b1c1d1e1f"},
		{counted(0xe0), "e0e1e2e3e4e5e6e7e8e9eaebecedeeeff0f1f2f3f4f5f6f7f8f9fafbfcfdfeff"},
	}
	for _, x := range tests {
		if got := digest.Hex(x.r); got != x.want {
			t.Errorf("Hex = %s; want %s", got, x.want)
		}
	}
}

// P2.1: Hex of every byte at every place.
func TestHexEveryByte(t *testing.T) {
	for first := range 256 {
		r := counted(byte(first))
		if got, want := digest.Hex(r), hex.EncodeToString(r[:]); got != want {
			t.Errorf("Hex = %s; want %s", got, want)
		}
	}
}
