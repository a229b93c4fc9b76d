package ssz_test

import (
	"bytes"
	"math"
	"testing"

	"keystone/api"
	"keystone/ssz"
)

// P4.3: Join, with answers written out.
func TestJoinByHand(t *testing.T) {
	tests := []struct {
		parts [][]byte
		want  string
	}{
		{nil, ""},
		{[][]byte{}, ""},
		{[][]byte{nil}, "\x04\x00\x00\x00"},
		{[][]byte{{}, nil}, "\x08\x00\x00\x00\x08\x00\x00\x00"},
		{[][]byte{[]byte("a")}, "\x04\x00\x00\x00a"},
		{[][]byte{[]byte("a"), []byte("bc")}, "\x08\x00\x00\x00\x09\x00\x00\x00abc"},
		{[][]byte{nil, []byte("bc")}, "\x08\x00\x00\x00\x08\x00\x00\x00bc"},
		{[][]byte{[]byte("bc"), nil}, "\x08\x00\x00\x00\x0a\x00\x00\x00bc"},
		{[][]byte{[]byte("abc"), nil, []byte("d")}, "\x0c\x00\x00\x00\x0f\x00\x00\x00\x0f\x00\x00\x00abcd"},
	}
	for _, x := range tests {
		if got := ssz.Join(x.parts); string(got) != x.want {
			t.Errorf("Join(%q) = %x; want %x", x.parts, got, x.want)
		}
		limit := len(x.parts)
		got, errno := ssz.Apart([]byte(x.want), limit)
		if errno != api.OK || !sameParts(got, x.parts) {
			t.Errorf("Apart(%x, %d) = %q, %d", x.want, limit, got, errno)
		}
	}
}

// P4.3: what isn't a Join of parts is refused.
func TestApartWrong(t *testing.T) {
	tests := []struct {
		b     string
		limit int
	}{
		{"\x00", 9}, {"\x04", 9}, {"\x04\x00", 9}, {"\x04\x00\x00", 9}, {"\x00\x00\x00", 9},
		{"\x00\x00\x00\x00", 9},
		{"\x00\x00\x00\x00\x00", 9},
		{"\x01\x00\x00\x00", 9}, {"\x02\x00\x00\x00", 9}, {"\x03\x00\x00\x00", 9},
		{"\x05\x00\x00\x00\x00", 9}, {"\x06\x00\x00\x00\x00\x00", 9}, {"\x07\x00\x00\x00\x00\x00\x00", 9},
		{"\x08\x00\x00\x00", 9},
		{"\x08\x00\x00\x00\x08\x00\x00", 9},
		{"\x08\x00\x00\x00\x07\x00\x00\x00ab", 9},
		{"\x08\x00\x00\x00\x0b\x00\x00\x00ab", 9},
		{"\x08\x00\x00\x00\x08\x00\x00\x01ab", 9},
		{"\x0c\x00\x00\x00\x0e\x00\x00\x00\x0d\x00\x00\x00ab", 9},
		{"\x04\x01\x00\x00\x00", 9}, {"\x04\x00\x01\x00\x00", 9}, {"\x04\x00\x00\x01\x00", 9},
		{"\xfc\xff\xff\xff", math.MaxInt}, {"\xff\xff\xff\xff\xff\xff\xff\xff", math.MaxInt},
		{"\x04\x00\x00\x00", 0}, {"\x04\x00\x00\x00", -1}, {"\x04\x00\x00\x00", math.MinInt},
		{"\x00\x00\x00\x00", 0},
		{"\x08\x00\x00\x00\x09\x00\x00\x00abc", 1},
		{"\x0c\x00\x00\x00\x0c\x00\x00\x00\x0c\x00\x00\x00", 2},
	}
	for _, x := range tests {
		if got, errno := ssz.Apart([]byte(x.b), x.limit); errno != api.ErrSSZ || len(got) != 0 {
			t.Errorf("Apart(%x, %d) = %q, %d; want ErrSSZ", x.b, x.limit, got, errno)
		}
	}
}

// P4.3: no bytes are no parts, whatever the limit.
func TestApartOfNothing(t *testing.T) {
	for _, limit := range []int{math.MinInt, -1, 0, 1, 9, math.MaxInt} {
		for _, b := range [][]byte{nil, {}} {
			if got, errno := ssz.Apart(b, limit); errno != api.OK || len(got) != 0 {
				t.Errorf("Apart of nothing, limit %d: %q, %d", limit, got, errno)
			}
		}
	}
}

// P4.3, P3: of strings of up to 14 bytes whose places are below 16, just the Joins are taken.
func TestApartAgainstAllJoins(t *testing.T) {
	const longest = 14
	joins := map[string]int{"": 0}
	for count := 1; 4*count <= longest; count++ {
		addJoins(joins, nil, count, longest-4*count)
	}
	var b [longest]byte
	for length := range longest + 1 {
		for first := range byte(16) {
			for second := range byte(16) {
				for third := range byte(16) {
					clear(b[:])
					b[0], b[4], b[8] = first, second, third
					checkApart(t, joins, b[:length])
				}
			}
		}
	}
}

// addJoins adds every list of count parts of bytes 0, of at most room bytes in all.
func addJoins(joins map[string]int, ahead [][]byte, count, room int) {
	if count == 0 {
		var items []item
		for _, p := range ahead {
			items = append(items, part(p...))
		}
		joins[string(container(items))] = len(ahead)
		return
	}
	for size := range room + 1 {
		addJoins(joins, append(ahead[:len(ahead):len(ahead)], make([]byte, size)), count-1, room-size)
	}
}

// checkApart: bytes behind the places may be others than 0, so they are put to 0 ahead of looking for the join.
func checkApart(t *testing.T, joins map[string]int, b []byte) {
	t.Helper()
	plain := bytes.Clone(b)
	if len(b) > 0 {
		clear(plain[min(len(b), max(4, int(b[0]))):])
	}
	count, isJoin := joins[string(plain)]
	for limit := range 5 {
		parts, errno := ssz.Apart(b, limit)
		if want := isJoin && count <= limit; (errno == api.OK) != want {
			t.Errorf("Apart(% x, %d): %d; want OK: %v", b, limit, errno, want)
			continue
		}
		if errno == api.OK && (len(parts) != count || !bytes.Equal(ssz.Join(parts), b)) {
			t.Errorf("Apart(% x, %d) = % x", b, limit, parts)
		}
	}
}

// P4.3, P3: many and long parts; just as many as the limit are taken, one more is not.
func TestApartOfJoin(t *testing.T) {
	for _, count := range []int{1, 2, 3, 8, 31, 32, 33, 64, 65, 300, 20000} {
		var parts [][]byte
		for i := range count {
			parts = append(parts, pattern(i*i%41))
		}
		b := ssz.Join(parts)
		if got, errno := ssz.Apart(b, count); errno != api.OK || !sameParts(got, parts) {
			t.Errorf("%d parts aren't taken apart as they were joined: %d", count, errno)
		}
		if _, errno := ssz.Apart(b, math.MaxInt); errno != api.OK {
			t.Errorf("%d parts, the greatest limit: %d", count, errno)
		}
		if got, errno := ssz.Apart(b, count-1); errno != api.ErrSSZ || len(got) != 0 {
			t.Errorf("%d parts, limit %d: %d", count, count-1, errno)
		}
	}
}

// R6: what is handed in stays and isn't kept; parts are memory of their own, without spare room.
func TestApartAndJoinMemory(t *testing.T) {
	room := []byte("abcdef")
	parts := [][]byte{room[:1], room[2:4]}
	b := ssz.Join(parts)
	if string(room) != "abcdef" {
		t.Errorf("Join changed its parts: %q", room)
	}
	clear(room)
	want := "\x08\x00\x00\x00\x09\x00\x00\x00acd"
	if string(b) != want {
		t.Errorf("Join changed with its parts: %q", b)
	}
	behind := []byte(want + "xyz")
	got, errno := ssz.Apart(behind[:len(want)], 2)
	if errno != api.OK || string(behind) != want+"xyz" {
		t.Fatalf("Apart: %d, %q", errno, behind)
	}
	clear(behind)
	if !sameParts(got, [][]byte{[]byte("a"), []byte("cd")}) {
		t.Errorf("Apart changed with its bytes: %q", got)
	}
	for _, p := range got {
		noSpare(t, "Apart", p)
	}
	_ = append(got[0], 'Z')
	got[0][0] = 'Y'
	if string(got[1]) != "cd" {
		t.Errorf("a part changed with another: %q", got[1])
	}
}
