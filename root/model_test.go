package root_test

import (
	"crypto/sha256"
	"encoding/binary"
	"reflect"

	"keystone/api"
)

// The model: the SSZ standard's recursive definition over the types themselves, by reflection, with the library's digest and with every leaf of a tree laid out.

// limitOf is chapter 5's table: a list's limit, by its value and field.
var limitOf = map[string]int{
	"Attestation.Bits":  32,
	"Pending.Bits":      32,
	"Indexed.Who":       32,
	"Body.Proposers":    2,
	"Body.Attesters":    1,
	"Body.Attestations": 8,
	"Body.Deposits":     4,
	"Body.Exits":        2,
	"State.EthVotes":    8,
	"State.Validators":  32,
	"State.Balances":    32,
	"State.Previous":    32,
	"State.Current":     32,
}

func modelRoot(v reflect.Value, limit int) api.Root {
	switch v.Kind() {
	case reflect.Array:
		if v.Type().Elem().Kind() == reflect.Uint8 {
			return v.Convert(reflect.TypeFor[api.Root]()).Interface().(api.Root)
		}
		leaves := modelLeaves(v)
		return modelTree(leaves, len(leaves))
	case reflect.Slice:
		return modelPair(modelTree(modelLeaves(v), modelChunks(v, limit)), modelNumber(v.Len()))
	case reflect.Struct:
		var leaves []api.Root
		for i := range v.NumField() {
			leaves = append(leaves, modelRoot(v.Field(i), limitOf[v.Type().Name()+"."+v.Type().Field(i).Name]))
		}
		return modelTree(leaves, len(leaves))
	}
	return modelPack(modelBasic(v))[0]
}

// modelLeaves is what stands in a list's tree: what is no container stands packed.
func modelLeaves(v reflect.Value) []api.Root {
	switch v.Type().Elem().Kind() {
	case reflect.Bool:
		return modelPack(modelBits(v))
	case reflect.Uint64:
		var b []byte
		for _, e := range elements(v) {
			b = append(b, modelBasic(e)...)
		}
		return modelPack(b)
	}
	var leaves []api.Root
	for _, e := range elements(v) {
		leaves = append(leaves, modelRoot(e, 0))
	}
	return leaves
}

// modelChunks is how many leaves a list of so many elements has room for.
func modelChunks(v reflect.Value, limit int) int {
	switch v.Type().Elem().Kind() {
	case reflect.Bool:
		return (limit + 255) / 256
	case reflect.Uint64:
		return (8*limit + 31) / 32
	}
	return limit
}

func modelBasic(v reflect.Value) []byte {
	if v.Kind() == reflect.Uint64 {
		return binary.LittleEndian.AppendUint64(nil, v.Uint())
	}
	if v.Bool() {
		return []byte{1}
	}
	return []byte{0}
}

func modelBits(v reflect.Value) []byte {
	b := make([]byte, (v.Len()+7)/8)
	for i, e := range elements(v) {
		if e.Bool() {
			b[i/8] += 1 << (i % 8)
		}
	}
	return b
}

func modelPack(b []byte) []api.Root {
	all := make([]api.Root, (len(b)+31)/32)
	for i, one := range b {
		all[i/32][i%32] = one
	}
	return all
}

// modelTree is the zero root beyond the limit: the standard has no such lists, the chapter says it of them.
func modelTree(leaves []api.Root, limit int) api.Root {
	if len(leaves) > limit {
		return api.Root{}
	}
	places := 1
	for places < limit {
		places *= 2
	}
	all := make([]api.Root, places)
	copy(all, leaves)
	return modelHalves(all)
}

func modelHalves(leaves []api.Root) api.Root {
	if len(leaves) == 1 {
		return leaves[0]
	}
	half := len(leaves) / 2
	return modelPair(modelHalves(leaves[:half]), modelHalves(leaves[half:]))
}

func modelPair(a, b api.Root) api.Root { return sha256.Sum256(append(a[:], b[:]...)) }

func modelNumber(n int) api.Root {
	var r api.Root
	binary.LittleEndian.PutUint64(r[:], uint64(n))
	return r
}
