package ssz_test

import (
	"bytes"
	"encoding/binary"
	"math"
	"slices"
	"testing"

	"keystone/api"
	"keystone/ssz"
)

// P4.2: a container of all kinds of fields.
func TestReaderByHand(t *testing.T) {
	b := slices.Concat(
		[]byte{0xa1, 0xa2},               // Fixed(2)
		[]byte{52, 0, 0, 0},              // Part
		[]byte{8, 7, 6, 5, 4, 3, 2, 1},   // Num
		[]byte{1},                        // Bool
		[]byte{1, 2, 31: 3},              // Root
		[]byte{0},                        // Bool
		[]byte{55, 0, 0, 0},              // Part
		[]byte{'a', 'b', 'c', 'd', 0xff}, // the parts
	)
	r := ssz.Read(b, 52)
	if got := r.Fixed(2); !bytes.Equal(got, []byte{0xa1, 0xa2}) {
		t.Errorf("Fixed: % x", got)
	}
	r.Part()
	if got := r.Num(); got != 0x0102030405060708 {
		t.Errorf("Num: %#x", got)
	}
	if !r.Bool() {
		t.Error("Bool of 1: false")
	}
	if got := r.Root(); got != (api.Root{1, 2, 31: 3}) {
		t.Errorf("Root: %x", got)
	}
	if r.Bool() {
		t.Error("Bool of 0: true")
	}
	if got := r.Fixed(0); len(got) != 0 {
		t.Errorf("Fixed(0): % x", got)
	}
	r.Part()
	parts, ok := r.Parts()
	if !ok || !sameParts(parts, [][]byte{[]byte("abc"), []byte("d\xff")}) {
		t.Errorf("Parts: %q, %v", parts, ok)
	}
	if again, ok := r.Parts(); !ok || !sameParts(again, parts) {
		t.Errorf("Parts again: %q, %v", again, ok)
	}
}

// P3: what was written is read as it; what was read is written as just those bytes.
func TestReaderOfWriter(t *testing.T) {
	for i, items := range shapes() {
		got, ok := read(write(items), items)
		if !ok || !sameItems(got, items) {
			t.Errorf("shape %d isn't read as it was written (%v)", i, ok)
		}
	}
}

// P4.2, P3: of all changes of one byte of a container, and of one byte more or less, those that are read are written as just the same bytes.
func TestReaderOneForm(t *testing.T) {
	for i, items := range shapes() {
		b := write(items)
		if len(b) > 1000 {
			continue
		}
		for at := range b {
			for v := range 256 {
				changed := bytes.Clone(b)
				changed[at] = byte(v)
				if got, ok := read(changed, items); ok && !bytes.Equal(write(got), changed) {
					t.Errorf("shape %d: % x is read, but written as % x", i, changed, write(got))
				}
			}
		}
		if len(b) > 0 {
			if got, ok := read(b[:len(b)-1], items); ok && !bytes.Equal(write(got), b[:len(b)-1]) {
				t.Errorf("shape %d without its last byte is read, and written otherwise", i)
			}
		}
		if got, ok := read(append(bytes.Clone(b), 0), items); ok && !bytes.Equal(write(got), append(b, 0)) {
			t.Errorf("shape %d with a byte more is read, and written otherwise", i)
		}
	}
}

// P4.2: just those places are taken of which the first is size, none less than the one ahead, none above the length.
func TestReaderPlaces(t *testing.T) {
	places := []uint32{0, 1, 4, 8, 12, 13, 14, 15, 16, 17, 18, 255, 256 + 13, 1<<16 + 13, 1<<24 + 13, 1 << 31, 1<<31 + 13, math.MaxUint32}
	for behind := range 4 {
		for _, first := range places {
			for _, second := range places {
				for _, third := range places {
					checkPlaces(t, behind, first, second, third)
				}
			}
		}
	}
}

func checkPlaces(t *testing.T, behind int, first, second, third uint32) {
	t.Helper()
	const size = 13
	b := binary.LittleEndian.AppendUint32(nil, first)
	b = append(b, 0x77)
	b = binary.LittleEndian.AppendUint32(b, second)
	b = binary.LittleEndian.AppendUint32(b, third)
	b = append(b, []byte{0xd1, 0xd2, 0xd3}[:behind]...)
	r := ssz.Read(b, size)
	r.Part()
	r.Fixed(1)
	r.Part()
	r.Part()
	parts, ok := r.Parts()
	want := first == size && second >= first && third >= second && int(third) <= len(b)
	if ok != want {
		t.Errorf("places %d, %d, %d of %d bytes: %v", first, second, third, len(b), ok)
		return
	}
	if !ok {
		if len(parts) != 0 {
			t.Errorf("places %d, %d, %d of %d bytes: parts beside false", first, second, third, len(b))
		}
		return
	}
	if !sameParts(parts, [][]byte{b[first:second], b[second:third], b[third:]}) {
		t.Errorf("places %d, %d, %d of %d bytes: % x", first, second, third, len(b), parts)
	}
}

// P4.2: the one place of a container with one part is size, and nothing else.
func TestReaderOnePlace(t *testing.T) {
	for place := range 12 {
		b := []byte{byte(place), 0, 0, 0, 1, 2, 3}
		r := ssz.Read(b, 4)
		r.Part()
		if _, ok := r.Parts(); ok != (place == 4) {
			t.Errorf("place %d: %v", place, ok)
		}
	}
	for _, at := range []int{1, 2, 3} {
		b := []byte{4, 0, 0, 0, 1}
		b[at] = 1
		r := ssz.Read(b, 4)
		r.Part()
		if _, ok := r.Parts(); ok {
			t.Errorf("a place with 1 in byte %d is taken", at)
		}
	}
}

// P4.2: without a part there are just size bytes, and just size bytes are taken.
func TestReaderLengths(t *testing.T) {
	for length := range 12 {
		for size := -2; size < 14; size++ {
			for taken := range 14 {
				r := ssz.Read(pattern(length), size)
				r.Fixed(taken)
				parts, ok := r.Parts()
				if want := length == size && taken == size; ok != want || len(parts) != 0 {
					t.Errorf("%d bytes, size %d, %d taken: %v", length, size, taken, ok)
				}
			}
		}
	}
}

// P4.2: with a part too just size bytes are taken, and there are at least as many.
func TestReaderLengthsWithPart(t *testing.T) {
	for size := 4; size < 10; size++ {
		for length := range 14 {
			for taken := range 10 {
				b := []byte{byte(size), 0, 0, 0, 1, 2, 3, 4, 5, 6, 7, 8, 9, 10}[:length]
				r := ssz.Read(b, size)
				r.Part()
				r.Fixed(taken)
				parts, ok := r.Parts()
				if want := length >= size && taken+4 == size; ok != want {
					t.Errorf("%d bytes, size %d, %d taken: %v", length, size, taken+4, ok)
				} else if ok && !sameParts(parts, [][]byte{b[size:]}) {
					t.Errorf("%d bytes, size %d: % x", length, size, parts)
				}
			}
		}
	}
}

// P4.2: a place that doesn't fit into size is more than was there, also where there are bytes behind.
func TestReaderPartBeyondSize(t *testing.T) {
	for size := range 4 {
		r := ssz.Read([]byte{byte(size), 0, 0, 0, 0, 0, 0, 0}, size)
		r.Part()
		if _, ok := r.Parts(); ok {
			t.Errorf("a part in %d bytes", size)
		}
	}
}

// P4.2: a truth is 0 or 1.
func TestReaderBool(t *testing.T) {
	for v := range 256 {
		r := ssz.Read([]byte{byte(v), 5}, 2)
		if got := r.Bool(); got != (v == 1) {
			t.Errorf("Bool of %d: %v", v, got)
		}
		next := r.Fixed(1)
		if v <= 1 && next[0] != 5 || v > 1 && next[0] != 0 {
			t.Errorf("Fixed behind a Bool of %d: % x", v, next)
		}
		if _, ok := r.Parts(); ok != (v <= 1) {
			t.Errorf("Parts behind a Bool of %d: %v", v, ok)
		}
	}
}

// P4.2: where something was wrong all that is taken is 0, and stays so.
func TestReaderWrongAnswersZero(t *testing.T) {
	full := bytes.Repeat([]byte{1}, 100)
	wrongs := []struct {
		name string
		make func() *ssz.Reader
	}{
		{"too few bytes", func() *ssz.Reader { return ssz.Read(full[:99], 100) }},
		{"no bytes", func() *ssz.Reader { return ssz.Read(nil, 100) }},
		{"size below 0", func() *ssz.Reader { return ssz.Read(full, -1) }},
		{"the least size", func() *ssz.Reader { return ssz.Read(full, math.MinInt) }},
		{"the greatest size", func() *ssz.Reader { return ssz.Read(full, math.MaxInt) }},
		{"Fail", func() *ssz.Reader { r := ssz.Read(full, 100); r.Fail(); return r }},
		{"too many taken", func() *ssz.Reader { r := ssz.Read(full, 99); r.Fixed(100); return r }},
		{"the greatest number taken", func() *ssz.Reader { r := ssz.Read(full, 100); r.Fixed(1); r.Fixed(math.MaxInt); return r }},
		{"fewer than none taken", func() *ssz.Reader { r := ssz.Read(full, 100); r.Fixed(-1); return r }},
		{"the least number taken", func() *ssz.Reader { r := ssz.Read(full, 100); r.Fixed(math.MinInt); return r }},
		{"no truth", func() *ssz.Reader { r := ssz.Read(append([]byte{2}, full...), 101); r.Bool(); return r }},
		{"no place", func() *ssz.Reader { r := ssz.Read(full, 100); r.Part(); return r }},
	}
	for _, x := range wrongs {
		r := x.make()
		for n := range 5 {
			if got := r.Fixed(n); !bytes.Equal(got, make([]byte, n)) {
				t.Errorf("%s: Fixed(%d) = % x", x.name, n, got)
			}
		}
		if got := r.Num(); got != 0 {
			t.Errorf("%s: Num = %d", x.name, got)
		}
		if got := r.Root(); got != (api.Root{}) {
			t.Errorf("%s: Root = %x", x.name, got)
		}
		if r.Bool() {
			t.Errorf("%s: Bool = true", x.name)
		}
		r.Part()
		if parts, ok := r.Parts(); ok || len(parts) != 0 {
			t.Errorf("%s: Parts = % x, %v", x.name, parts, ok)
		}
	}
}

// P4.2: a call that takes too much answers as many bytes 0 as it was asked for, though some were left.
func TestReaderTakesTooMuch(t *testing.T) {
	for left := range 40 {
		b := bytes.Repeat([]byte{255}, 3+left)
		take := func() *ssz.Reader { r := ssz.Read(b, len(b)); r.Fixed(3); return r }
		if got := take().Fixed(left + 1); !bytes.Equal(got, make([]byte, left+1)) {
			t.Errorf("%d left: Fixed = % x", left, got)
		}
		if got := take().Num(); (got != 0) != (left >= 8) {
			t.Errorf("%d left: Num = %d", left, got)
		}
		if got := take().Root(); (got != api.Root{}) != (left >= 32) {
			t.Errorf("%d left: Root = %x", left, got)
		}
	}
}

// P4.2: bytes behind size are no fields of one size.
func TestReaderStaysInSize(t *testing.T) {
	b := []byte{4, 0, 0, 0, 0xee, 0xee, 0xee, 0xee}
	r := ssz.Read(b, 4)
	r.Part()
	if got := r.Fixed(1); !bytes.Equal(got, []byte{0}) {
		t.Errorf("Fixed = % x", got)
	}
	if _, ok := r.Parts(); ok {
		t.Error("Parts: true")
	}
}

// P4.2: Fail stays, whatever is right around it, and behind Parts too.
func TestReaderFail(t *testing.T) {
	r := ssz.Read([]byte{4, 0, 0, 0, 9}, 4)
	r.Part()
	if _, ok := r.Parts(); !ok {
		t.Fatal("Parts: false")
	}
	r.Fail()
	for range 2 {
		if parts, ok := r.Parts(); ok || len(parts) != 0 {
			t.Errorf("Parts behind Fail: % x, %v", parts, ok)
		}
	}
	empty := ssz.Read(nil, 0)
	if _, ok := empty.Parts(); !ok {
		t.Error("a container without fields: false")
	}
	empty.Fail()
	if _, ok := empty.Parts(); ok {
		t.Error("a container without fields, behind Fail: true")
	}
}

// R6, R8: a reader keeps nothing of the bytes, and answers new memory without spare room.
func TestReaderMemory(t *testing.T) {
	room := []byte{1, 2, 3, 4, 12, 0, 0, 0, 13, 0, 0, 0, 'a', 'b', 'c', 'x', 'y', 'z', 'u'}
	before := bytes.Clone(room)
	r := ssz.Read(room[:15], 12)
	first := r.Fixed(2)
	if !bytes.Equal(room, before) {
		t.Error("Read changed its bytes")
	}
	clear(room)
	second := r.Fixed(2)
	r.Part()
	r.Part()
	parts, ok := r.Parts()
	if !ok || !bytes.Equal(second, []byte{3, 4}) || !sameParts(parts, [][]byte{[]byte("a"), []byte("bc")}) {
		t.Fatalf("behind a change of the bytes: % x, %q, %v", second, parts, ok)
	}
	noSpare(t, "Fixed", first)
	noSpare(t, "Fixed", second)
	for _, p := range parts {
		noSpare(t, "Parts", p)
	}
	first[0], first[1] = 0xee, 0xee
	parts[0][0] = 0xee
	_ = append(parts[0], 0xee)
	if string(parts[1]) != "bc" {
		t.Errorf("a part changed with another: %q", parts[1])
	}
	if again, ok := r.Parts(); !ok || !sameParts(again, [][]byte{[]byte("a"), []byte("bc")}) {
		t.Errorf("Parts behind a change of its answer: %q, %v", again, ok)
	}
}

// R8: a reader that was copied goes on for itself.
func TestReaderCopies(t *testing.T) {
	for count := 1; count < 20; count++ {
		items := []item{}
		for i := range count {
			items = append(items, part(byte(i), byte(i)))
		}
		b := container(append(items, part(1), part(2, 3)))
		r := ssz.Read(b, 4*(count+2))
		for range count {
			r.Part()
		}
		other := *r
		r.Fixed(8)
		other.Part()
		r.Fail()
		other.Part()
		parts, ok := other.Parts()
		if !ok || len(parts) != count+2 || !sameParts(parts[count:], [][]byte{{1}, {2, 3}}) {
			t.Errorf("%d parts and two: % x, %v", count, parts, ok)
		}
		if _, ok := r.Parts(); ok {
			t.Errorf("%d parts: the first reader answers true", count)
		}
	}
}

// R7, P1: a nil reader holds nothing.
func TestReaderNil(t *testing.T) {
	var r *ssz.Reader
	r.Part()
	r.Fail()
	if got := r.Fixed(3); len(got) != 0 {
		t.Errorf("Fixed: % x", got)
	}
	if r.Num() != 0 || r.Bool() || r.Root() != (api.Root{}) {
		t.Error("a number, a truth or a root of a nil reader")
	}
	if parts, ok := r.Parts(); ok || len(parts) != 0 {
		t.Errorf("Parts: % x, %v", parts, ok)
	}
}
