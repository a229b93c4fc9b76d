package ssz

import (
	"bytes"
	"iter"
	"slices"

	"keystone/api"
	"keystone/num"
)

// Split: a list of elements of one size, at most so many.
func Split(b []byte, size, limit int) (iter.Seq[[]byte], api.Errno) {
	if size < 1 || len(b)%size != 0 || len(b)/size > limit {
		return nil, api.ErrSSZ
	}
	// One may go over the elements long behind this call, when the caller has other bytes in b.
	own := bytes.Clone(b)
	return func(yield func([]byte) bool) {
		// Nor does it change the next going over if somebody writes into an element.
		rest := bytes.Clone(own)
		for len(rest) > 0 {
			if !yield(rest[:size:size]) {
				return
			}
			rest = rest[size:]
		}
	}, api.OK
}

// Apart: a list of elements of any size, at most so many.
func Apart(b []byte, limit int) ([][]byte, api.Errno) {
	if len(b) == 0 {
		return nil, api.OK
	}
	// The first element begins behind all places: so its place tells how many there are.
	size := int(num.Take(b[:min(len(b), placeBytes)]))
	count := size / placeBytes
	if size%placeBytes != 0 || size > len(b) || count > limit {
		return nil, api.ErrSSZ
	}
	r := Read(b, size)
	for range count {
		r.Part()
	}
	parts, ok := r.Parts()
	if !ok {
		return nil, api.ErrSSZ
	}
	return parts, api.OK
}

// Join: elements of any size as a list.
func Join(parts [][]byte) []byte {
	var w Writer
	for _, part := range parts {
		w.Part(part)
	}
	return w.Bytes()
}

// List is a list of a kind of elements: how one is put and taken; its size, 0 of any.
type List[T any] struct {
	Size, Limit int
	Put         func(T) []byte
	Take        func([]byte) (T, api.Errno)
}

// Encode: a list's bytes.
func (l List[T]) Encode(all []T) []byte {
	if l.Size < 0 {
		return nil
	}
	// The writer has each element's bytes for itself at once: a Put may use its memory again for the next one.
	var w Writer
	for _, one := range all {
		if l.Size > 0 {
			w.Fixed(l.put(one))
		} else {
			w.Part(l.put(one))
		}
	}
	return w.Bytes()
}

// Decode: the list of bytes.
func (l List[T]) Decode(b []byte) ([]T, api.Errno) {
	pieces, errno := l.pieces(b)
	if errno != api.OK {
		return nil, errno
	}
	var all []T
	for piece := range pieces {
		one, errno := l.take(piece)
		if errno != api.OK {
			return nil, errno
		}
		all = append(all, one)
	}
	return all, api.OK
}

// pieces is the elements' bytes, one by one.
func (l List[T]) pieces(b []byte) (iter.Seq[[]byte], api.Errno) {
	if l.Size != 0 {
		return Split(b, l.Size, l.Limit)
	}
	parts, errno := Apart(b, l.Limit)
	if errno != api.OK {
		return nil, errno
	}
	return slices.Values(parts), api.OK
}

// put and take stand before functions that may be nil, which answer as R7 has it of nil objects.
func (l List[T]) put(one T) []byte {
	if l.Put == nil {
		return nil
	}
	return l.Put(one)
}

func (l List[T]) take(piece []byte) (T, api.Errno) {
	if l.Take == nil {
		var none T
		return none, api.ErrNil
	}
	return l.Take(piece)
}
