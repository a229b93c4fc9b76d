package ssz_test

import (
	"bytes"
	"encoding/binary"
	"testing"

	"keystone/ssz"
)

// item is a field of a container, of one size or of any.
type item struct {
	b    []byte
	part bool
}

func fixed(b ...byte) item { return item{b: b} }

func part(b ...byte) item { return item{b: b, part: true} }

// container is a container's bytes by the chapter's words, in a way of its own: the places are told from each field's view.
func container(items []item) []byte {
	size := sizeOf(items)
	var out []byte
	for i, x := range items {
		if !x.part {
			out = append(out, x.b...)
			continue
		}
		place := size
		for _, y := range items[:i] {
			if y.part {
				place += len(y.b)
			}
		}
		out = binary.LittleEndian.AppendUint32(out, uint32(place))
	}
	for _, x := range items {
		if x.part {
			out = append(out, x.b...)
		}
	}
	return out
}

func sizeOf(items []item) int {
	size := 0
	for _, x := range items {
		if x.part {
			size += 4
		} else {
			size += len(x.b)
		}
	}
	return size
}

func write(items []item) []byte {
	var w ssz.Writer
	for _, x := range items {
		if x.part {
			w.Part(x.b)
		} else {
			w.Fixed(x.b)
		}
	}
	return w.Bytes()
}

// read takes the fields of a container of the shape of items.
func read(b []byte, items []item) ([]item, bool) {
	r := ssz.Read(b, sizeOf(items))
	var got []item
	for _, x := range items {
		if x.part {
			r.Part()
			got = append(got, item{part: true})
		} else {
			got = append(got, item{b: r.Fixed(len(x.b))})
		}
	}
	parts, ok := r.Parts()
	if !ok {
		return nil, false
	}
	for i := range got {
		if got[i].part {
			got[i].b, parts = parts[0], parts[1:]
		}
	}
	return got, len(parts) == 0
}

func sameItems(a, b []item) bool {
	if len(a) != len(b) {
		return false
	}
	for i := range a {
		if a[i].part != b[i].part || !bytes.Equal(a[i].b, b[i].b) {
			return false
		}
	}
	return true
}

// shapes are containers of many kinds: without fields, of one size alone, of any size alone, mixed, with empty fields.
func shapes() [][]item {
	return [][]item{
		nil,
		{fixed()},
		{fixed(7)},
		{fixed(1, 2, 3), fixed(4)},
		{part()},
		{part(9)},
		{part(), part()},
		{part(1), part(), part(2, 3)},
		{part(), part(1), part()},
		{fixed(5, 0, 0, 0, 0, 0, 0, 0), part('a', 'b')},
		{part('a', 'b'), fixed(5, 0, 0, 0, 0, 0, 0, 0)},
		{fixed(1), part(2), fixed(3), part(4, 5), fixed(), part(), fixed(6, 7)},
		{part(bytes.Repeat([]byte{0xaa}, 300)...), part(0xbb), fixed(1)},
		{fixed(pattern(70000)...), part(1), part(2)},
		{part(pattern(1 << 17)...), part(3), part(4)},
	}
}

// pattern is bytes of which neighbours differ.
func pattern(size int) []byte {
	b := make([]byte, size)
	for i := range b {
		b[i] = byte(i*7 + i>>8 + 1)
	}
	return b
}

// noSpare: the bytes have no room behind them into which an append would write.
func noSpare(t *testing.T, name string, b []byte) {
	t.Helper()
	if cap(b) != len(b) {
		t.Errorf("%s: %d bytes with room for %d", name, len(b), cap(b))
	}
}

func sameParts(a, b [][]byte) bool {
	if len(a) != len(b) {
		return false
	}
	for i := range a {
		if !bytes.Equal(a[i], b[i]) {
			return false
		}
	}
	return true
}
