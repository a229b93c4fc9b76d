package ssz

import "slices"

// chain is a list that grows at its end. A longer one leaves the shorter one as it was: an object that was copied as a value shares no spare room with its copy, as it would with a slice that both append to.
type chain[T any] struct {
	count int
	last  *link[T]
}

type link[T any] struct {
	ahead *link[T]
	value T
}

func (c chain[T]) with(value T) chain[T] {
	return chain[T]{count: c.count + 1, last: &link[T]{ahead: c.last, value: value}}
}

// all is the values in the order in which they came.
func (c chain[T]) all() []T {
	values := make([]T, c.count)
	at := c.last
	for i := range slices.Backward(values) {
		values[i] = at.value
		at = at.ahead
	}
	return values
}
