package ssz_test

import (
	"bytes"
	"math"
	"testing"

	"keystone/api"
	"keystone/ssz"
)

// P4.1: containers, with answers written out.
func TestWriterByHand(t *testing.T) {
	tests := []struct {
		name string
		put  func(w *ssz.Writer)
		want []byte
	}{
		{"no fields", func(w *ssz.Writer) {}, nil},
		{"no numbers, no roots", func(w *ssz.Writer) { w.Num(); w.Root() }, nil},
		{"an empty field of one size", func(w *ssz.Writer) { w.Fixed(nil) }, nil},
		{"one byte", func(w *ssz.Writer) { w.Fixed([]byte{7}) }, []byte{7}},
		{"two fields of one size", func(w *ssz.Writer) { w.Fixed([]byte{7, 8}); w.Fixed([]byte{9}) }, []byte{7, 8, 9}},
		{"a number", func(w *ssz.Writer) { w.Num(0x0102030405060708) }, []byte{8, 7, 6, 5, 4, 3, 2, 1}},
		{"the greatest number", func(w *ssz.Writer) { w.Num(math.MaxUint64) }, bytes.Repeat([]byte{255}, 8)},
		{"numbers", func(w *ssz.Writer) { w.Num(1, 256, 3) }, []byte{1, 0, 0, 0, 0, 0, 0, 0, 0, 1, 0, 0, 0, 0, 0, 0, 3, 0, 0, 0, 0, 0, 0, 0}},
		{"a root", func(w *ssz.Writer) { w.Root(api.Root{1, 31: 2}) }, []byte{1, 31: 2}},
		{"roots", func(w *ssz.Writer) { w.Root(api.Root{1}, api.Root{31: 2}) }, []byte{1, 63: 2}},
		{"an empty part", func(w *ssz.Writer) { w.Part(nil) }, []byte{4, 0, 0, 0}},
		{"a part", func(w *ssz.Writer) { w.Part([]byte{9}) }, []byte{4, 0, 0, 0, 9}},
		{"a number and a part", func(w *ssz.Writer) { w.Num(5); w.Part([]byte("ab")) }, []byte("\x05\x00\x00\x00\x00\x00\x00\x00\x0c\x00\x00\x00ab")},
		{"a part and a number", func(w *ssz.Writer) { w.Part([]byte("ab")); w.Num(5) }, []byte("\x0c\x00\x00\x00\x05\x00\x00\x00\x00\x00\x00\x00ab")},
		{"parts around a byte", func(w *ssz.Writer) { w.Part([]byte("a")); w.Fixed([]byte{7}); w.Part(nil); w.Part([]byte("bc")) }, []byte("\x0d\x00\x00\x00\x07\x0e\x00\x00\x00\x0e\x00\x00\x00abc")},
	}
	for _, x := range tests {
		var w ssz.Writer
		x.put(&w)
		if got := w.Bytes(); !bytes.Equal(got, x.want) {
			t.Errorf("%s: % x; want % x", x.name, got, x.want)
		}
	}
}

// P4.1: containers of many shapes, against the chapter's words; places of more than one byte too.
func TestWriterAgainstWords(t *testing.T) {
	for i, items := range shapes() {
		if got, want := write(items), container(items); !bytes.Equal(got, want) {
			t.Errorf("shape %d: %d bytes; want %d", i, len(got), len(want))
		}
	}
}

// P4.1: a place has four bytes, the lowest first.
func TestWriterPlaceBytes(t *testing.T) {
	var w ssz.Writer
	w.Fixed(make([]byte, 0x030201-8))
	w.Part(make([]byte, 0x010000))
	w.Part([]byte{9})
	b := w.Bytes()
	at := 0x030201 - 8
	if got := b[at : at+8]; !bytes.Equal(got, []byte{1, 2, 3, 0, 1, 2, 4, 0}) {
		t.Errorf("places % x", got)
	}
	if len(b) != 0x040202 || b[len(b)-1] != 9 {
		t.Errorf("%d bytes", len(b))
	}
}

// P4.1: asking for the bytes changes nothing; one may go on behind it.
func TestWriterGoesOn(t *testing.T) {
	var w ssz.Writer
	w.Part([]byte{1})
	for range 2 {
		if got := w.Bytes(); !bytes.Equal(got, []byte{4, 0, 0, 0, 1}) {
			t.Fatalf("% x", got)
		}
	}
	w.Fixed([]byte{2})
	w.Part([]byte{3})
	if got, want := w.Bytes(), []byte{9, 0, 0, 0, 2, 10, 0, 0, 0, 1, 3}; !bytes.Equal(got, want) {
		t.Errorf("% x; want % x", got, want)
	}
}

// R6: what is handed in is neither changed nor kept; what is answered is new.
func TestWriterMemory(t *testing.T) {
	var w ssz.Writer
	room := []byte{1, 2, 3, 4}
	numbers := []uint64{5, 6}
	roots := []api.Root{{7}, {8}}
	w.Fixed(room[:2])
	w.Part(room[1:3])
	w.Num(numbers[:1]...)
	w.Root(roots[:1]...)
	want := bytes.Clone(w.Bytes())
	if !bytes.Equal(room, []byte{1, 2, 3, 4}) || numbers[1] != 6 || roots[1] != (api.Root{8}) {
		t.Error("what was handed in was changed")
	}
	clear(room)
	clear(numbers)
	clear(roots)
	got := w.Bytes()
	if !bytes.Equal(got, want) {
		t.Errorf("% x behind a change of what was handed in; want % x", got, want)
	}
	got = got[:cap(got)]
	for i := range got {
		got[i] = 0xee
	}
	if again := w.Bytes(); !bytes.Equal(again, want) {
		t.Errorf("% x behind a change of the answer; want % x", again, want)
	}
	w.Num(9)
	if !bytes.Equal(got, bytes.Repeat([]byte{0xee}, len(got))) {
		t.Error("an answer changed when the writer went on")
	}
}

// R8: a writer that was copied goes on for itself, however many fields there were.
func TestWriterCopies(t *testing.T) {
	for count := range 40 {
		var w ssz.Writer
		for i := range count {
			w.Part([]byte{byte(i)})
		}
		other := w
		w.Part([]byte{100})
		other.Fixed([]byte{101})
		third := other
		third.Part([]byte{102})
		other.Part([]byte{103})
		var items []item
		for i := range count {
			items = append(items, part(byte(i)))
		}
		if got, want := w.Bytes(), container(append(items[:count:count], part(100))); !bytes.Equal(got, want) {
			t.Errorf("%d fields, the first: % x; want % x", count, got, want)
		}
		if got, want := other.Bytes(), container(append(items[:count:count], fixed(101), part(103))); !bytes.Equal(got, want) {
			t.Errorf("%d fields, the copy: % x; want % x", count, got, want)
		}
		if got, want := third.Bytes(), container(append(items[:count:count], fixed(101), part(102))); !bytes.Equal(got, want) {
			t.Errorf("%d fields, the copy's copy: % x; want % x", count, got, want)
		}
	}
}

// R7, P1: a nil writer holds nothing.
func TestWriterNil(t *testing.T) {
	var w *ssz.Writer
	w.Fixed([]byte{1})
	w.Num(2)
	w.Root(api.Root{3})
	w.Part([]byte{4})
	if got := w.Bytes(); len(got) != 0 {
		t.Errorf("% x", got)
	}
}
