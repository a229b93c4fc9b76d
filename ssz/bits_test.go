package ssz_test

import (
	"bytes"
	"math"
	"slices"
	"testing"

	"keystone/api"
	"keystone/ssz"
)

// truths is bits written as a text of 0 and 1.
func truths(text string) []bool {
	var out []bool
	for _, c := range text {
		out = append(out, c == '1')
	}
	return out
}

// P4.5: bits, with answers written out.
func TestBitsByHand(t *testing.T) {
	tests := []struct {
		bits       string
		plain, end []byte
	}{
		{"", nil, []byte{1}},
		{"0", []byte{0}, []byte{2}},
		{"1", []byte{1}, []byte{3}},
		{"101", []byte{0x05}, []byte{0x0d}},
		{"1111", []byte{0x0f}, []byte{0x1f}},
		{"0000000", []byte{0}, []byte{0x80}},
		{"1000001", []byte{0x41}, []byte{0xc1}},
		{"00000000", []byte{0}, []byte{0, 1}},
		{"10000001", []byte{0x81}, []byte{0x81, 1}},
		{"11111111", []byte{0xff}, []byte{0xff, 1}},
		{"000000001", []byte{0, 1}, []byte{0, 3}},
		{"110100000100000", []byte{0x0b, 0x02}, []byte{0x0b, 0x82}},
		{"1101000001000001", []byte{0x0b, 0x82}, []byte{0x0b, 0x82, 1}},
	}
	for _, x := range tests {
		want := truths(x.bits)
		if got := ssz.PutBits(want, false); !bytes.Equal(got, x.plain) {
			t.Errorf("PutBits(%s) = % x; want % x", x.bits, got, x.plain)
		}
		if got := ssz.PutBits(want, true); !bytes.Equal(got, x.end) {
			t.Errorf("PutBits(%s, end) = % x; want % x", x.bits, got, x.end)
		}
		for _, limit := range []int{len(want), len(want) + 1, 1000, math.MaxInt} {
			if got, errno := ssz.TakeBits(x.end, limit); errno != api.OK || !slices.Equal(got, want) {
				t.Errorf("TakeBits(% x, %d) = %v, %d; want %s", x.end, limit, got, errno, x.bits)
			}
		}
		for _, limit := range []int{len(want) - 1, -1, math.MinInt} {
			if got, errno := ssz.TakeBits(x.end, limit); errno != api.ErrSSZ || len(got) != 0 {
				t.Errorf("TakeBits(% x, %d) = %v, %d; want ErrSSZ", x.end, limit, got, errno)
			}
		}
		if got, errno := ssz.TakeFew(x.plain, len(want)); len(want) > 0 && (errno != api.OK || !slices.Equal(got, want)) {
			t.Errorf("TakeFew(% x, %d) = %v, %d; want %s", x.plain, len(want), got, errno, x.bits)
		}
	}
}

// P4.5: bytes without an end, or none.
func TestTakeBitsWrong(t *testing.T) {
	for _, b := range [][]byte{nil, {}, {0}, {1, 0}, {0xff, 0}, {0, 0}, {0xff, 0xff, 0}} {
		for _, limit := range []int{0, 9, 100, math.MaxInt} {
			if got, errno := ssz.TakeBits(b, limit); errno != api.ErrSSZ || len(got) != 0 {
				t.Errorf("TakeBits(% x, %d) = %v, %d; want ErrSSZ", b, limit, got, errno)
			}
		}
	}
}

// P4.5: wrong numbers of bits, of bytes, and bits behind the n-th.
func TestTakeFewWrong(t *testing.T) {
	tests := []struct {
		b []byte
		n int
	}{
		{nil, 0}, {[]byte{}, 0}, {[]byte{0}, 0}, {[]byte{0}, -1}, {nil, -1}, {nil, -8}, {[]byte{0}, math.MinInt},
		{nil, 1}, {nil, 8}, {[]byte{0, 0}, 1}, {[]byte{0, 0}, 8}, {[]byte{0}, 9}, {[]byte{0, 0}, 17}, {[]byte{0, 0, 0}, 16},
		{[]byte{0}, math.MaxInt}, {nil, math.MaxInt}, {nil, math.MaxInt - 7},
		{[]byte{0x1f}, 4}, {[]byte{0x10}, 4}, {[]byte{0x20}, 4}, {[]byte{0x40}, 4}, {[]byte{0x80}, 4},
		{[]byte{0x02}, 1}, {[]byte{0x80}, 7}, {[]byte{0, 2}, 9}, {[]byte{0, 0x80}, 15},
	}
	for _, x := range tests {
		if got, errno := ssz.TakeFew(x.b, x.n); errno != api.ErrSSZ || len(got) != 0 {
			t.Errorf("TakeFew(% x, %d) = %v, %d; want ErrSSZ", x.b, x.n, got, errno)
		}
	}
}

// P4.5, P3: of all strings of one and two bytes: those that are taken are put as just the same bytes, and all others are refused.
func TestBitsOneForm(t *testing.T) {
	for v := range 1 << 16 {
		for _, b := range [][]byte{{byte(v), byte(v >> 8)}, {byte(v)}} {
			checkTakeBits(t, b)
			checkTakeFew(t, b, 4)
			checkTakeFew(t, b, 8)
			checkTakeFew(t, b, 13)
			checkTakeFew(t, b, 16)
			if t.Failed() {
				t.FailNow()
			}
			if v > 255 {
				break
			}
		}
	}
}

func checkTakeBits(t *testing.T, b []byte) {
	t.Helper()
	const limit = 13
	end := -1
	for i := range 8 * len(b) {
		if b[i/8]>>(i%8)&1 == 1 {
			end = i
		}
	}
	want := b[len(b)-1] != 0 && end <= limit
	got, errno := ssz.TakeBits(b, limit)
	if (errno == api.OK) != want {
		t.Errorf("TakeBits(% x, %d): %d", b, limit, errno)
	}
	if errno == api.OK && (len(got) != end || !bytes.Equal(ssz.PutBits(got, true), b)) {
		t.Errorf("TakeBits(% x, %d) = %v", b, limit, got)
	}
}

func checkTakeFew(t *testing.T, b []byte, n int) {
	t.Helper()
	want := len(b) == (n+7)/8
	for i := n; i < 8*len(b); i++ {
		want = want && b[i/8]>>(i%8)&1 == 0
	}
	got, errno := ssz.TakeFew(b, n)
	if (errno == api.OK) != want {
		t.Errorf("TakeFew(% x, %d): %d", b, n, errno)
	}
	if errno == api.OK && (len(got) != n || !bytes.Equal(ssz.PutBits(got, false), b)) {
		t.Errorf("TakeFew(% x, %d) = %v", b, n, got)
	}
}

// P3: bits of every number up to many bytes go there and back.
func TestBitsRoundTrips(t *testing.T) {
	for count := range 600 {
		all := make([]bool, count)
		for i := range all {
			all[i] = i*i%7 < 3
		}
		if b := ssz.PutBits(all, true); len(b) != count/8+1 {
			t.Errorf("%d bits and an end: %d bytes", count, len(b))
		} else if got, errno := ssz.TakeBits(b, count); errno != api.OK || !slices.Equal(got, all) {
			t.Errorf("%d bits and an end: %d", count, errno)
		}
		b := ssz.PutBits(all, false)
		if len(b) != (count+7)/8 {
			t.Errorf("%d bits: %d bytes", count, len(b))
		}
		got, errno := ssz.TakeFew(b, count)
		if count == 0 {
			if errno != api.ErrSSZ {
				t.Errorf("no bits: %d", errno)
			}
		} else if errno != api.OK || !slices.Equal(got, all) {
			t.Errorf("%d bits: %d", count, errno)
		}
	}
}

// R6: what is handed in stays as it was, spare room too, and isn't looked at there.
func TestBitsMemory(t *testing.T) {
	room := []bool{true, false, true, true, true, true}
	if got := ssz.PutBits(room[:3], true); !bytes.Equal(got, []byte{0x0d}) {
		t.Errorf("% x", got)
	}
	if !slices.Equal(room, truths("101111")) {
		t.Errorf("PutBits changed its bits: %v", room)
	}
	b := []byte{0x0d, 0xff, 0xff}
	got, _ := ssz.TakeBits(b[:1], 9)
	few, _ := ssz.TakeFew(b[:1], 4)
	if !bytes.Equal(b, []byte{0x0d, 0xff, 0xff}) {
		t.Errorf("bytes were changed: % x", b)
	}
	clear(b)
	if !slices.Equal(got, truths("101")) || !slices.Equal(few, truths("1011")) {
		t.Errorf("%v, %v", got, few)
	}
}
