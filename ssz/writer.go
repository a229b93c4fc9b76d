package ssz

import (
	"bytes"

	"keystone/api"
	"keystone/num"
)

// Writer puts a container's fields: those of one size as they are, the others behind, with their places.
type Writer struct {
	fields chain[field]
}

type field struct {
	content []byte
	anySize bool
}

// Fixed: a field of one size.
func (w *Writer) Fixed(b []byte) {
	w.put(field{content: b})
}

// Num: a number.
func (w *Writer) Num(n ...uint64) {
	for _, one := range n {
		w.Fixed(num.Put(one, numberBytes))
	}
}

// Root: a root.
func (w *Writer) Root(r ...api.Root) {
	for _, one := range r {
		w.Fixed(one[:])
	}
}

// Part: a field of any size.
func (w *Writer) Part(b []byte) {
	w.put(field{content: b, anySize: true})
}

func (w *Writer) put(f field) {
	if w == nil {
		return
	}
	f.content = bytes.Clone(f.content)
	w.fields = w.fields.with(f)
}

// Bytes: the container.
func (w *Writer) Bytes() []byte {
	if w == nil {
		return nil
	}
	fields := w.fields.all()
	size := frontSize(fields)
	var front, back []byte
	for _, f := range fields {
		if f.anySize {
			place := uint64(size + len(back))
			front = append(front, num.Put(place, placeBytes)...)
			back = append(back, f.content...)
		} else {
			front = append(front, f.content...)
		}
	}
	return append(front, back...)
}

// frontSize is how many bytes stand ahead of the fields of any size; the first place can't be told without it.
func frontSize(fields []field) int {
	size := 0
	for _, f := range fields {
		if f.anySize {
			size += placeBytes
		} else {
			size += len(f.content)
		}
	}
	return size
}
