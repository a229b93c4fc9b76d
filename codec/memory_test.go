package codec_test

import (
	"bytes"
	"math/rand"
	"reflect"
	"testing"

	"keystone/api"
)

// span is memory, from its first byte to behind its last, spare room included.
type span struct{ from, to uintptr }

func spanOf(list reflect.Value) span {
	from := list.Pointer()
	return span{from, from + uintptr(list.Cap())*list.Type().Elem().Size()}
}

func (s span) meets(other span) bool { return s.from < other.to && other.from < s.to }

func spansOf(value any) []span {
	var all []span
	lists(reflect.ValueOf(value), 0, func(list reflect.Value, _ int) { all = append(all, spanOf(list)) })
	return all
}

// R6: a value that is put stays as it was, spare room too, and shares nothing with its bytes; each call answers new ones.
func TestPutMemory(t *testing.T) {
	for _, k := range kinds() {
		random := rand.New(rand.NewSource(11))
		value := filled(k.of, random, func(limit int) int { return min(limit, 3) })
		var before [][]byte
		lists(reflect.ValueOf(value), 0, func(list reflect.Value, _ int) {
			before = append(before, modelPut(list.Slice(0, list.Cap())))
		})
		b := k.put(value)
		want := bytes.Clone(b)
		clear(b[:cap(b)])
		if again := k.put(value); !bytes.Equal(again, want) {
			t.Errorf("%s: its bytes changed with those of an earlier call", k.name)
		}
		lists(reflect.ValueOf(value), 0, func(list reflect.Value, _ int) {
			if !bytes.Equal(before[0], modelPut(list.Slice(0, list.Cap()))) {
				t.Errorf("%s: a list of the value was changed", k.name)
			}
			before = before[1:]
		})
	}
}

// R6: bytes that are taken stay as they were, spare room too, and are not kept; no two lists of a value share memory.
func TestTakeMemory(t *testing.T) {
	for _, k := range backs() {
		random := rand.New(rand.NewSource(12))
		value := filled(k.of, random, func(limit int) int { return min(limit, 3) })
		b := k.put(value)
		room := append(bytes.Clone(b), "spare room"...)
		got, errno := k.take(room[:len(b)])
		if errno != api.OK || string(room) != string(b)+"spare room" {
			t.Fatalf("To%s: %d", k.name, errno)
		}
		own := spansOf(got)
		for i, s := range own {
			if s.meets(spanOf(reflect.ValueOf(room))) {
				t.Errorf("To%s: a list shares the bytes' memory", k.name)
			}
			for _, other := range own[:i] {
				if s.meets(other) {
					t.Errorf("To%s: two lists share memory", k.name)
				}
			}
		}
		second, _ := k.take(room[:len(b)])
		for _, s := range spansOf(second) {
			for _, other := range own {
				if s.meets(other) {
					t.Errorf("To%s: the lists of two answers share memory", k.name)
				}
			}
		}
		clear(room)
		if !same(got, value) {
			t.Errorf("To%s: the value changed with its bytes", k.name)
		}
	}
}

// R5: a list that is empty is put as one that is nil.
func TestEmptyLists(t *testing.T) {
	for _, k := range kinds() {
		empty := reflect.New(k.of).Elem()
		lists(empty, 0, func(list reflect.Value, _ int) { list.Set(reflect.MakeSlice(list.Type(), 0, 3)) })
		if !bytes.Equal(k.put(empty.Interface()), k.put(reflect.Zero(k.of).Interface())) {
			t.Errorf("%s: empty lists are put in another way than nil", k.name)
		}
	}
}
