package codec_test

import (
	"bytes"
	"encoding/binary"
	"reflect"
	"slices"
)

// The model: the chapter's words over the types themselves, by reflection. What it takes as a value's bytes it tells by the promise's own words: those that a value within its limits is put as.

// limitOf is the chapter's table: a list's limit, by its value and field.
var limitOf = map[string]int{
	"Attestation.Bits":  32,
	"Pending.Bits":      32,
	"Indexed.Who":       32,
	"Body.Proposers":    2,
	"Body.Attesters":    1,
	"Body.Attestations": 8,
	"Body.Deposits":     4,
	"Body.Exits":        2,
	"State.EthVotes":    8,
	"State.Validators":  32,
	"State.Balances":    32,
	"State.Previous":    32,
	"State.Current":     32,
}

// oneSize is how many bytes every value of a type has; false: not all have as many.
func oneSize(t reflect.Type) (int, bool) {
	switch t.Kind() {
	case reflect.Uint64:
		return 8, true
	case reflect.Bool, reflect.Uint8:
		return 1, true
	case reflect.Array:
		if t.Elem().Kind() == reflect.Bool {
			return (t.Len() + 7) / 8, true
		}
		size, ok := oneSize(t.Elem())
		return t.Len() * size, ok
	case reflect.Struct:
		sum := 0
		for i := range t.NumField() {
			size, ok := oneSize(t.Field(i).Type)
			if !ok {
				return 0, false
			}
			sum += size
		}
		return sum, true
	}
	return 0, false
}

// frontOf is how many bytes a container's fields of one size, and its places, have.
func frontOf(t reflect.Type) int {
	front := 0
	for i := range t.NumField() {
		if size, ok := oneSize(t.Field(i).Type); ok {
			front += size
		} else {
			front += 4
		}
	}
	return front
}

func modelPut(v reflect.Value) []byte {
	switch v.Kind() {
	case reflect.Uint64:
		return binary.LittleEndian.AppendUint64(nil, v.Uint())
	case reflect.Bool:
		if v.Bool() {
			return []byte{1}
		}
		return []byte{0}
	case reflect.Array, reflect.Slice:
		switch v.Type().Elem().Kind() {
		case reflect.Bool:
			return modelBits(v)
		case reflect.Uint8:
			out := make([]byte, v.Len())
			reflect.Copy(reflect.ValueOf(out), v)
			return out
		}
		return modelContainer(elements(v))
	}
	var fields []reflect.Value
	for i := range v.NumField() {
		fields = append(fields, v.Field(i))
	}
	return modelContainer(fields)
}

func elements(v reflect.Value) []reflect.Value {
	var all []reflect.Value
	for i := range v.Len() {
		all = append(all, v.Index(i))
	}
	return all
}

func modelContainer(fields []reflect.Value) []byte {
	front := 0
	for _, f := range fields {
		if size, ok := oneSize(f.Type()); ok {
			front += size
		} else {
			front += 4
		}
	}
	var out, behind []byte
	for _, f := range fields {
		b := modelPut(f)
		if _, ok := oneSize(f.Type()); ok {
			out = append(out, b...)
			continue
		}
		out = binary.LittleEndian.AppendUint32(out, uint32(front+len(behind)))
		behind = append(behind, b...)
	}
	return append(out, behind...)
}

func modelBits(v reflect.Value) []byte {
	all := []bool{}
	for i := range v.Len() {
		all = append(all, v.Index(i).Bool())
	}
	if v.Kind() == reflect.Slice {
		all = append(all, true)
	}
	out := make([]byte, (len(all)+7)/8)
	for i, bit := range all {
		if bit {
			out[i/8] += 1 << (i % 8)
		}
	}
	return out
}

// within: no list of a value is longer than its limit.
func within(v reflect.Value) bool {
	switch v.Kind() {
	case reflect.Slice:
		for _, e := range elements(v) {
			if !within(e) {
				return false
			}
		}
	case reflect.Struct:
		for i := range v.NumField() {
			f := v.Field(i)
			if f.Kind() == reflect.Slice && f.Len() > limitOf[v.Type().Name()+"."+v.Type().Field(i).Name] {
				return false
			}
			if !within(f) {
				return false
			}
		}
	}
	return true
}

// modelTake is the value of bytes, and true, if there is one within its limits.
func modelTake(b []byte, t reflect.Type) (reflect.Value, bool) {
	v := reflect.New(t).Elem()
	if !guess(v, b) || !within(v) || !bytes.Equal(modelPut(v), b) {
		return reflect.Value{}, false
	}
	return v, true
}

// guess is the one value that bytes may be those of; it looks no closer than it must to tell. False: none.
func guess(v reflect.Value, b []byte) bool {
	if size, ok := oneSize(v.Type()); ok && len(b) != size {
		return false
	}
	switch v.Kind() {
	case reflect.Uint64:
		v.SetUint(binary.LittleEndian.Uint64(b))
	case reflect.Bool:
		v.SetBool(b[0] != 0)
	case reflect.Array:
		return guessArray(v, b)
	case reflect.Slice:
		return guessList(v, b)
	case reflect.Struct:
		return guessStruct(v, b)
	}
	return true
}

func guessArray(v reflect.Value, b []byte) bool {
	switch v.Type().Elem().Kind() {
	case reflect.Bool:
		for i := range v.Len() {
			v.Index(i).SetBool(b[i/8]>>(i%8)&1 == 1)
		}
		return true
	case reflect.Uint8:
		reflect.Copy(v, reflect.ValueOf(b))
		return true
	}
	size := len(b) / v.Len()
	for i := range v.Len() {
		if !guess(v.Index(i), b[i*size:(i+1)*size]) {
			return false
		}
	}
	return true
}

func guessStruct(v reflect.Value, b []byte) bool {
	front := frontOf(v.Type())
	if len(b) < front {
		return false
	}
	var others []reflect.Value
	var places []int
	at := 0
	for i := range v.NumField() {
		f := v.Field(i)
		if size, ok := oneSize(f.Type()); ok {
			if !guess(f, b[at:at+size]) {
				return false
			}
			at += size
			continue
		}
		others = append(others, f)
		places = append(places, int(binary.LittleEndian.Uint32(b[at:])))
		at += 4
	}
	return guessBehind(others, places, b)
}

func guessBehind(others []reflect.Value, places []int, b []byte) bool {
	places = append(places, len(b))
	if !slices.IsSorted(places) {
		return false
	}
	for i, f := range others {
		if !guess(f, b[places[i]:places[i+1]]) {
			return false
		}
	}
	return true
}

func guessList(v reflect.Value, b []byte) bool {
	if v.Type().Elem().Kind() == reflect.Bool {
		last := -1
		for i := range 8 * len(b) {
			if b[i/8]>>(i%8)&1 == 1 {
				last = i
			}
		}
		for i := range last {
			v.Set(reflect.Append(v, reflect.ValueOf(b[i/8]>>(i%8)&1 == 1)))
		}
		return last >= 0
	}
	if size, ok := oneSize(v.Type().Elem()); ok {
		v.Set(reflect.MakeSlice(v.Type(), len(b)/size, len(b)/size))
		for i := range v.Len() {
			if !guess(v.Index(i), b[i*size:(i+1)*size]) {
				return false
			}
		}
		return true
	}
	if len(b) == 0 {
		return true
	}
	if len(b) < 4 {
		return false
	}
	count := int(binary.LittleEndian.Uint32(b)) / 4
	if count > len(b)/4 {
		return false
	}
	v.Set(reflect.MakeSlice(v.Type(), count, count))
	var places []int
	for i := range count {
		places = append(places, int(binary.LittleEndian.Uint32(b[4*i:])))
	}
	return guessBehind(elements(v), places, b)
}
