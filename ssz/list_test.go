package ssz_test

import (
	"bytes"
	"math"
	"slices"
	"testing"

	"keystone/api"
	"keystone/num"
	"keystone/ssz"
)

// shorts is lists of numbers of two bytes; 0xffff is no such number.
func shorts(limit int) ssz.List[uint16] {
	return ssz.List[uint16]{
		Size:  2,
		Limit: limit,
		Put:   func(n uint16) []byte { return num.Put(uint64(n), 2) },
		Take: func(b []byte) (uint16, api.Errno) {
			if bytes.Equal(b, []byte{0xff, 0xff}) {
				return 7, api.ErrRange
			}
			return uint16(num.Take(b)), api.OK
		},
	}
}

// texts is lists of texts; those that begin with ! or ? are none.
func texts(limit int) ssz.List[string] {
	return ssz.List[string]{
		Limit: limit,
		Put:   func(s string) []byte { return []byte(s) },
		Take: func(b []byte) (string, api.Errno) {
			switch {
			case bytes.HasPrefix(b, []byte("!")):
				return "none", api.ErrKind
			case bytes.HasPrefix(b, []byte("?")):
				return "none", api.ErrOld
			}
			return string(b), api.OK
		},
	}
}

// P4.4: lists of elements of one size, with answers written out.
func TestListOfOneSize(t *testing.T) {
	tests := []struct {
		all  []uint16
		want []byte
	}{
		{nil, nil},
		{[]uint16{}, nil},
		{[]uint16{258}, []byte{2, 1}},
		{[]uint16{258, 3, 0}, []byte{2, 1, 3, 0, 0, 0}},
	}
	for _, x := range tests {
		if got := shorts(0).Encode(x.all); !bytes.Equal(got, x.want) {
			t.Errorf("Encode(%d) = % x; want % x", x.all, got, x.want)
		}
		if got, errno := shorts(len(x.all)).Decode(x.want); errno != api.OK || !slices.Equal(got, x.all) {
			t.Errorf("Decode(% x) = %d, %d; want %d", x.want, got, errno, x.all)
		}
	}
}

// P4.4: lists of elements of any size, with answers written out.
func TestListOfAnySize(t *testing.T) {
	tests := []struct {
		all  []string
		want string
	}{
		{nil, ""},
		{[]string{}, ""},
		{[]string{""}, "\x04\x00\x00\x00"},
		{[]string{"a", "bc"}, "\x08\x00\x00\x00\x09\x00\x00\x00abc"},
		{[]string{"", "xyz", ""}, "\x0c\x00\x00\x00\x0c\x00\x00\x00\x0f\x00\x00\x00xyz"},
	}
	for _, x := range tests {
		if got := texts(0).Encode(x.all); string(got) != x.want {
			t.Errorf("Encode(%q) = %x; want %x", x.all, got, x.want)
		}
		if got, errno := texts(len(x.all)).Decode([]byte(x.want)); errno != api.OK || !slices.Equal(got, x.all) {
			t.Errorf("Decode(%x) = %q, %d; want %q", x.want, got, errno, x.all)
		}
	}
}

// P4.4: what is no list of at most Limit is refused, ahead of any Take.
func TestListWrongBytes(t *testing.T) {
	for _, x := range []struct {
		b     []byte
		limit int
	}{
		{[]byte{1}, 9},
		{[]byte{1, 0, 2}, 9},
		{[]byte{0xff, 0xff, 2}, 9},
		{[]byte{1, 0, 2, 0}, 1},
		{[]byte{0xff, 0xff, 2, 0}, 1},
		{[]byte{1, 0}, 0},
		{[]byte{1, 0}, -1},
		{nil, -1},
		{nil, math.MinInt},
	} {
		if got, errno := shorts(x.limit).Decode(x.b); errno != api.ErrSSZ || len(got) != 0 {
			t.Errorf("Decode(% x), limit %d: %d, %d", x.b, x.limit, got, errno)
		}
	}
	for _, x := range []struct {
		b     string
		limit int
	}{
		{"a", 9},
		{"\x05\x00\x00\x00a", 9},
		{"\x08\x00\x00\x00\x0b\x00\x00\x00!a", 9},
		{"\x08\x00\x00\x00\x07\x00\x00\x00!a", 9},
		{"\x08\x00\x00\x00\x09\x00\x00\x00!a", 1},
		{"\x04\x00\x00\x00!", 0},
		{"\x04\x00\x00\x00!", -1},
	} {
		if got, errno := texts(x.limit).Decode([]byte(x.b)); errno != api.ErrSSZ || len(got) != 0 {
			t.Errorf("Decode(%x), limit %d: %q, %d", x.b, x.limit, got, errno)
		}
	}
}

// P4.4: the first error of a Take, and nothing beside it; no Take behind it.
func TestListTakeErrors(t *testing.T) {
	for _, x := range []struct {
		all   []string
		errno api.Errno
		takes int
	}{
		{[]string{"a", "b"}, api.OK, 2},
		{[]string{"!"}, api.ErrKind, 1},
		{[]string{"a", "?", "!"}, api.ErrOld, 2},
		{[]string{"a", "!", "?", "b"}, api.ErrKind, 2},
		{[]string{"a", "b", "?"}, api.ErrOld, 3},
	} {
		l := texts(9)
		takes, take := 0, l.Take
		l.Take = func(b []byte) (string, api.Errno) { takes++; return take(b) }
		got, errno := l.Decode(l.Encode(x.all))
		if errno != x.errno || takes != x.takes {
			t.Errorf("%q: error %d behind %d Takes; want %d behind %d", x.all, errno, takes, x.errno, x.takes)
		}
		if errno != api.OK && len(got) != 0 {
			t.Errorf("%q: %q beside an error", x.all, got)
		}
	}
	if got, errno := shorts(9).Decode([]byte{1, 0, 0xff, 0xff, 2, 0}); errno != api.ErrRange || len(got) != 0 {
		t.Errorf("%d, %d", got, errno)
	}
}

// P3: what is encoded within its limit is decoded as it; one more is refused. Encode knows no limit.
func TestListRoundTrips(t *testing.T) {
	for count := range 70 {
		var numbers []uint16
		var words []string
		for i := range count {
			numbers = append(numbers, uint16(i*257))
			words = append(words, string(pattern(i%9)))
		}
		b, c := shorts(count-1).Encode(numbers), texts(count-1).Encode(words)
		if got, errno := shorts(count).Decode(b); errno != api.OK || !slices.Equal(got, numbers) {
			t.Errorf("%d numbers: %d, %d", count, got, errno)
		}
		if got, errno := texts(count).Decode(c); errno != api.OK || !slices.Equal(got, words) {
			t.Errorf("%d texts: %q, %d", count, got, errno)
		}
		if count == 0 {
			continue
		}
		if got, errno := shorts(count - 1).Decode(b); errno != api.ErrSSZ || len(got) != 0 {
			t.Errorf("%d numbers, one fewer allowed: %d", count, errno)
		}
		if got, errno := texts(count - 1).Decode(c); errno != api.ErrSSZ || len(got) != 0 {
			t.Errorf("%d texts, one fewer allowed: %d", count, errno)
		}
	}
}

// P3: what is decoded is encoded as just the bytes that it was decoded from.
func TestListOneForm(t *testing.T) {
	l := texts(3)
	taken := 0
	for first := range 16 {
		for second := range 16 {
			for length := range 16 {
				b := []byte{byte(first), 0, 0, 0, byte(second), 0, 0, 0, 'a', 'b', 'c', 'd', 'e', 'f', 'g'}[:length]
				all, errno := l.Decode(b)
				if errno != api.OK {
					continue
				}
				taken++
				if again := l.Encode(all); !bytes.Equal(again, b) {
					t.Errorf("% x is decoded, but encoded as % x", b, again)
				}
			}
		}
	}
	if taken < 50 {
		t.Errorf("only %d were decoded", taken)
	}
}

// P4.4: a Put may use its memory again, a Take may write into its bytes and keep them.
func TestListMemory(t *testing.T) {
	for _, size := range []int{1, 0} {
		buffer := make([]byte, 1)
		l := ssz.List[[]byte]{
			Size:  size,
			Limit: 5,
			Put:   func(b []byte) []byte { buffer[0] = b[0]; return buffer },
			Take: func(b []byte) ([]byte, api.Errno) {
				noSpare(t, "Take", b)
				b[0] += 100
				_ = append(b, 0xee)
				return b, api.OK
			},
		}
		all := [][]byte{{1}, {2}, {3}}
		want := []byte{1, 2, 3}
		if size == 0 {
			want = ssz.Join([][]byte{{1}, {2}, {3}})
		}
		b := l.Encode(all)
		if !bytes.Equal(b, want) || !sameParts(all, [][]byte{{1}, {2}, {3}}) {
			t.Errorf("size %d: % x; want % x", size, b, want)
		}
		got, errno := l.Decode(b)
		if errno != api.OK || !sameParts(got, [][]byte{{101}, {102}, {103}}) {
			t.Errorf("size %d: % x, %d", size, got, errno)
		}
		if !bytes.Equal(b, want) {
			t.Errorf("size %d: Decode changed its bytes: % x", size, b)
		}
	}
}

// P4.4, P1: no list has a Size below 0.
func TestListSizeBelowNothing(t *testing.T) {
	for _, size := range []int{-1, -2, math.MinInt} {
		l := shorts(9)
		l.Size = size
		if got := l.Encode([]uint16{1, 2}); len(got) != 0 {
			t.Errorf("size %d: % x", size, got)
		}
		for _, b := range [][]byte{nil, {1, 0}, {4, 0, 0, 0, 1, 0}} {
			if got, errno := l.Decode(b); errno != api.ErrSSZ || len(got) != 0 {
				t.Errorf("size %d: %d, %d", size, got, errno)
			}
		}
	}
}

// R7, P1: functions that are nil answer as what holds nothing.
func TestListNilFunctions(t *testing.T) {
	one, any := ssz.List[int]{Size: 1, Limit: 3}, ssz.List[int]{Limit: 3}
	if got := one.Encode([]int{1, 2}); len(got) != 0 {
		t.Errorf("% x", got)
	}
	if got := any.Encode([]int{1}); !bytes.Equal(got, []byte{4, 0, 0, 0}) {
		t.Errorf("% x", got)
	}
	for _, l := range []ssz.List[int]{one, any} {
		if got, errno := l.Decode(nil); errno != api.OK || len(got) != 0 {
			t.Errorf("%d, %d", got, errno)
		}
		if got, errno := l.Decode([]byte{4, 0, 0, 0}[:4-l.Size]); errno != api.ErrNil || len(got) != 0 {
			t.Errorf("%d, %d", got, errno)
		}
		if got, errno := l.Decode([]byte{5, 0, 0, 0, 0}); errno != api.ErrSSZ || len(got) != 0 {
			t.Errorf("%d, %d", got, errno)
		}
	}
}
