package codec_test

import (
	"math/rand"
	"reflect"

	"keystone/api"
	"keystone/codec"
)

// kind is one of the protocol's values, with its way there and, if it has one, back.
type kind struct {
	name string
	of   reflect.Type
	put  func(any) []byte
	take func([]byte) (any, api.Errno)
}

func kindOf[T any](put func(T) []byte, take func([]byte) (T, api.Errno)) kind {
	t := reflect.TypeFor[T]()
	k := kind{name: t.Name(), of: t, put: func(v any) []byte { return put(v.(T)) }}
	if take != nil {
		k.take = func(b []byte) (any, api.Errno) { return take(b) }
	}
	return k
}

func kinds() []kind {
	return []kind{
		kindOf(codec.Checkpoint, codec.ToCheckpoint),
		kindOf(codec.Header, codec.ToHeader),
		kindOf(codec.Vote, codec.ToVote),
		kindOf(codec.Attestation, codec.ToAttestation),
		kindOf(codec.Pending, codec.ToPending),
		kindOf(codec.Indexed, codec.ToIndexed),
		kindOf(codec.ProposerSlashing, codec.ToProposerSlashing),
		kindOf(codec.AttesterSlashing, codec.ToAttesterSlashing),
		kindOf(codec.DepositData, nil),
		kindOf(codec.Deposit, codec.ToDeposit),
		kindOf(codec.SignedExit, codec.ToSignedExit),
		kindOf(codec.Body, codec.ToBody),
		kindOf(codec.Block, codec.ToBlock),
		kindOf(codec.SignedBlock, codec.ToSignedBlock),
		kindOf(codec.Validator, codec.ToValidator),
		kindOf(codec.State, codec.ToState),
	}
}

// backs is the kinds that have a way back.
func backs() []kind {
	var all []kind
	for _, k := range kinds() {
		if k.take != nil {
			all = append(all, k)
		}
	}
	return all
}

// filled is a value of random numbers, whose lists are as long as length says of their limits; each has spare room, which is filled too.
func filled(t reflect.Type, random *rand.Rand, length func(limit int) int) any {
	v := reflect.New(t).Elem()
	fill(v, random, length, 0)
	return v.Interface()
}

func fill(v reflect.Value, random *rand.Rand, length func(int) int, limit int) {
	switch v.Kind() {
	case reflect.Uint64:
		v.SetUint(random.Uint64())
	case reflect.Uint8:
		v.SetUint(uint64(random.Intn(256)))
	case reflect.Bool:
		v.SetBool(random.Intn(2) == 1)
	case reflect.Array:
		for _, e := range elements(v) {
			fill(e, random, length, 0)
		}
	case reflect.Slice:
		count := length(limit)
		room := reflect.MakeSlice(v.Type(), count+1, count+1)
		for _, e := range elements(room) {
			fill(e, random, length, 0)
		}
		v.Set(room.Slice(0, count))
	case reflect.Struct:
		for i := range v.NumField() {
			fill(v.Field(i), random, length, limitOf[v.Type().Name()+"."+v.Type().Field(i).Name])
		}
	}
}

// same: two values are the same; a list that is empty may be nil (R5).
func same(a, b any) bool {
	return sameValue(reflect.ValueOf(a), reflect.ValueOf(b))
}

func sameValue(a, b reflect.Value) bool {
	if a.Type().Comparable() {
		return a.Interface() == b.Interface()
	}
	switch a.Kind() {
	case reflect.Slice:
		if a.Len() != b.Len() {
			return false
		}
		for i := range a.Len() {
			if !sameValue(a.Index(i), b.Index(i)) {
				return false
			}
		}
		return true
	case reflect.Struct:
		for i := range a.NumField() {
			if !sameValue(a.Field(i), b.Field(i)) {
				return false
			}
		}
		return true
	}
	return false
}

// lists is the places of all lists in a value, each with its own limit.
func lists(v reflect.Value, limit int, found func(list reflect.Value, limit int)) {
	switch v.Kind() {
	case reflect.Slice:
		found(v, limit)
		for _, e := range elements(v) {
			lists(e, 0, found)
		}
	case reflect.Array:
		for _, e := range elements(v) {
			lists(e, 0, found)
		}
	case reflect.Struct:
		for i := range v.NumField() {
			lists(v.Field(i), limitOf[v.Type().Name()+"."+v.Type().Field(i).Name], found)
		}
	}
}
