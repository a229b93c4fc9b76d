package ssz

import (
	"bytes"

	"keystone/api"
	"keystone/num"
)

// Reader takes a container's fields, in their order; a fault stays.
type Reader struct {
	content []byte
	size    int
	taken   int
	places  chain[int]
	wrong   bool
}

// Read: of bytes, of a container whose fields of one size, and places, have so many bytes.
func Read(b []byte, size int) *Reader {
	wrong := size < 0 || len(b) < size
	return &Reader{content: bytes.Clone(b), size: size, wrong: wrong}
}

// Fixed: the next n bytes.
func (r *Reader) Fixed(n int) []byte {
	if r == nil {
		return nil
	}
	if n < 0 || n > r.size-r.taken {
		r.Fail()
	}
	if r.wrong {
		return num.Put(0, n)
	}
	next := make([]byte, n)
	copy(next, r.content[r.taken:])
	r.taken += n
	return next
}

// Num: the next number.
func (r *Reader) Num() uint64 {
	return num.Take(r.Fixed(numberBytes))
}

// Root: the next root.
func (r *Reader) Root() api.Root {
	var root api.Root
	copy(root[:], r.Fixed(rootBytes))
	return root
}

// Bool: the next truth.
func (r *Reader) Bool() bool {
	n := num.Take(r.Fixed(boolBytes))
	if n > 1 {
		r.Fail()
	}
	return n == 1
}

// Part: a field of any size stands here; its place is kept.
func (r *Reader) Part() {
	if r == nil {
		return
	}
	place := int(num.Take(r.Fixed(placeBytes)))
	if !r.follows(place) {
		r.Fail()
	}
	// What is wrong has no parts: nothing more need be kept of it.
	if !r.wrong {
		r.places = r.places.with(place)
	}
}

// follows: may the next field of any size begin at a place?
func (r *Reader) follows(place int) bool {
	if r.places.count == 0 {
		return place == r.size
	}
	return r.places.last.value <= place && place <= len(r.content)
}

// Fail: something is wrong.
func (r *Reader) Fail() {
	if r != nil {
		r.wrong = true
	}
}

// Parts: the fields of any size, in their order; false: something was wrong.
func (r *Reader) Parts() ([][]byte, bool) {
	if r == nil || r.wrong || r.taken != r.size {
		return nil, false
	}
	if r.places.count == 0 && len(r.content) != r.size {
		return nil, false
	}
	return cut(r.content, r.places.all()), true
}

// cut is bytes from each place up to the next, as new memory: whoever is handed one part can neither change nor append into another.
func cut(b []byte, places []int) [][]byte {
	own := bytes.Clone(b)
	parts := make([][]byte, len(places))
	for i, from := range places {
		to := len(own)
		if i+1 < len(places) {
			to = places[i+1]
		}
		parts[i] = own[from:to:to]
	}
	return parts
}
