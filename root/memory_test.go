package root_test

import (
	"math/rand"
	"reflect"
	"sync"
	"testing"

	"keystone/api"
	"keystone/root"
)

// withRoom is each list of a value, spare room included.
func withRoom(v reflect.Value) []any {
	var all []any
	listsOf(v, func(list reflect.Value, _ int) {
		room := list.Slice(0, list.Cap())
		own := reflect.MakeSlice(room.Type(), room.Len(), room.Len())
		reflect.Copy(own, room)
		all = append(all, own.Interface())
	})
	return all
}

// R6: a value stays as it was, spare room too.
func TestValueStays(t *testing.T) {
	for _, k := range kinds() {
		v := filled(k.of, rand.New(rand.NewSource(8)), func(limit int) int { return min(limit, 3) })
		before := withRoom(v)
		k.root(v.Interface())
		if !reflect.DeepEqual(before, withRoom(v)) {
			t.Errorf("%s: a list of the value was changed", k.name)
		}
	}
	numbers := []uint64{1, 2, 3, 4, 5, 6}
	root.Numbers(numbers[:3])
	if !reflect.DeepEqual(numbers, []uint64{1, 2, 3, 4, 5, 6}) {
		t.Errorf("Numbers: its list is now %v", numbers)
	}
}

// R6, R8: nothing is kept from call to call: the root of what a list holds now, not of what it held.
func TestNothingIsKept(t *testing.T) {
	numbers := []uint64{1, 2, 3}
	first := root.Numbers(numbers)
	numbers[1] = 9
	if root.Numbers(numbers) == first || root.Numbers(numbers) != root.Numbers([]uint64{1, 9, 3}) {
		t.Error("Numbers of a list that was changed")
	}
	numbers[1] = 2
	if root.Numbers(numbers) != first {
		t.Error("Numbers of the same list isn't the same")
	}
}

// R8: calls side by side answer as calls one by one.
func TestSideBySide(t *testing.T) {
	s := aState()
	want := root.State(s)
	var group sync.WaitGroup
	got := make([]api.Root, 8)
	for i := range got {
		group.Go(func() { got[i] = root.State(s) })
	}
	group.Wait()
	for _, one := range got {
		if one != want {
			t.Errorf("State: %x; want %x", one, want)
		}
	}
}

// R5: a list that is empty has the root of one that is nil.
func TestEmptyLists(t *testing.T) {
	for _, k := range kinds() {
		empty := reflect.New(k.of).Elem()
		listsOf(empty, func(list reflect.Value, _ int) { list.Set(reflect.MakeSlice(list.Type(), 0, 3)) })
		if k.root(empty.Interface()) != k.root(reflect.Zero(k.of).Interface()) {
			t.Errorf("%s: empty lists have another root than nil", k.name)
		}
	}
	if root.Numbers([]uint64{}) != root.Numbers(nil) {
		t.Error("Numbers of an empty list isn't that of nil")
	}
}
