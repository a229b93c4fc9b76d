package root_test

import (
	"math/rand"
	"reflect"

	"keystone/api"
	"keystone/root"
)

// kind is one of the protocol's values, with its root.
type kind struct {
	name string
	of   reflect.Type
	root func(any) api.Root
}

func kindOf[T any](root func(T) api.Root) kind {
	t := reflect.TypeFor[T]()
	return kind{name: t.Name(), of: t, root: func(v any) api.Root { return root(v.(T)) }}
}

func kinds() []kind {
	return []kind{
		kindOf(root.Checkpoint),
		kindOf(root.Header),
		kindOf(root.Vote),
		kindOf(root.Attestation),
		kindOf(root.Pending),
		kindOf(root.Indexed),
		kindOf(root.ProposerSlashing),
		kindOf(root.AttesterSlashing),
		kindOf(root.DepositData),
		kindOf(root.Deposit),
		kindOf(root.Exit),
		kindOf(root.SignedExit),
		kindOf(root.Eth),
		kindOf(root.Body),
		kindOf(root.Block),
		kindOf(root.Validator),
		kindOf(root.State),
	}
}

// filled is a value of random numbers, whose lists are as long as length says of their limits; each has spare room, which is filled too.
func filled(t reflect.Type, random *rand.Rand, length func(limit int) int) reflect.Value {
	v := reflect.New(t).Elem()
	fill(v, random, length, 0)
	return v
}

func fill(v reflect.Value, random *rand.Rand, length func(int) int, limit int) {
	switch v.Kind() {
	case reflect.Uint64:
		v.SetUint(random.Uint64())
	case reflect.Uint8:
		v.SetUint(uint64(random.Intn(256)))
	case reflect.Bool:
		v.SetBool(random.Intn(2) == 1)
	case reflect.Array:
		for _, e := range elements(v) {
			fill(e, random, length, 0)
		}
	case reflect.Slice:
		count := length(limit)
		room := reflect.MakeSlice(v.Type(), count+1, count+1)
		for _, e := range elements(room) {
			fill(e, random, length, 0)
		}
		v.Set(room.Slice(0, count))
	case reflect.Struct:
		for i := range v.NumField() {
			fill(v.Field(i), random, length, limitOf[v.Type().Name()+"."+v.Type().Field(i).Name])
		}
	}
}

func elements(v reflect.Value) []reflect.Value {
	var all []reflect.Value
	for i := range v.Len() {
		all = append(all, v.Index(i))
	}
	return all
}

// inside goes through a value and all that stands in it, each list with its limit.
func inside(v reflect.Value, limit int, found func(part reflect.Value, limit int)) {
	found(v, limit)
	switch v.Kind() {
	case reflect.Slice, reflect.Array:
		for _, e := range elements(v) {
			inside(e, 0, found)
		}
	case reflect.Struct:
		for i := range v.NumField() {
			inside(v.Field(i), limitOf[v.Type().Name()+"."+v.Type().Field(i).Name], found)
		}
	}
}

// listsOf is all lists in a value.
func listsOf(v reflect.Value, found func(list reflect.Value, limit int)) {
	inside(v, 0, func(part reflect.Value, limit int) {
		if part.Kind() == reflect.Slice {
			found(part, limit)
		}
	})
}
