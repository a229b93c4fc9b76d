package duty_test

import (
	"crypto/sha256"
	"encoding/binary"
	"math"
	"slices"

	"keystone/api"
	"keystone/shuffle"
	"keystone/sign"
)

// counted is the root whose bytes count up from first.
func counted(first byte) api.Root {
	var r api.Root
	for i := range r {
		r[i] = first + byte(i)
	}
	return r
}

// rootOf is a root of one byte again and again.
func rootOf(b byte) api.Root { return api.Root(slices.Repeat([]byte{b}, 32)) }

// stateOf is a state of so many validators, who are always active, in a slot.
func stateOf(n int, slot uint64) api.State {
	s := api.State{Slot: slot}
	for m := range s.Mixes {
		s.Mixes[m] = counted(byte(10 * m))
	}
	for i := range n {
		s.Validators = append(s.Validators, api.Validator{Key: rootOf(byte(i + 1)), Effective: 32000, Exit: api.FarFuture, Withdraw: api.FarFuture})
		s.Balances = append(s.Balances, 32000)
	}
	return s
}

// comeAndGo is a state of 24 validators that differ in when they come and go, and in what they count by.
func comeAndGo(slot uint64) api.State {
	s := stateOf(24, slot)
	for i := range s.Validators {
		v := &s.Validators[i]
		v.Active, v.Effective = uint64(i%5), uint64(1000*(i+1))
		if i%3 == 0 {
			v.Exit = uint64(i)
		}
	}
	return s
}

// all is as many bits as there are, each set.
func all(n int) []bool { return slices.Repeat([]bool{true}, n) }

// The model: chapter 9's words, place by place.

func modelActive(s api.State, epoch uint64) []uint64 {
	var places []uint64
	for i := range s.Validators {
		if v := s.Validators[i]; !(v.Active > epoch) && !(v.Exit <= epoch) {
			places = append(places, uint64(i))
		}
	}
	return places
}

func modelCount(active int) uint64 {
	if active < 16 {
		return 1
	}
	return 2
}

// modelCommittee is of a slot and an index that there are.
func modelCommittee(s api.State, slot, index uint64) []uint64 {
	active := modelActive(s, slot/4)
	n, c := uint64(len(active)), modelCount(len(active))
	k := slot%4*c + index
	seed := shuffle.Seed(s, slot/4, 1)
	var members []uint64
	for place := n * k / (4 * c); place < n*(k+1)/(4*c); place++ {
		from, _ := shuffle.Index(place, n, seed)
		members = append(members, active[from])
	}
	return members
}

func modelProposer(s api.State) (uint64, api.Errno) {
	seed := shuffle.Seed(s, s.Slot/4, 0)
	return shuffle.Proposer(s, modelActive(s, s.Slot/4), sha256.Sum256(binary.LittleEndian.AppendUint64(seed[:], s.Slot)))
}

// signed is a vote of validators, with the tag of them all, whoever they are and however they stand there.
func signed(s api.State, v api.Vote, who ...uint64) api.Indexed {
	x := api.Indexed{Who: who, Data: v}
	for _, w := range who {
		var key api.Root
		if w < uint64(len(s.Validators)) {
			key = s.Validators[w].Key
		}
		x.Sig = sign.Join(x.Sig, sign.Tag(key, sign.Vote(v)))
	}
	return x
}

// upTo is the numbers from 0 to n - 1.
func upTo(n uint64) []uint64 {
	var numbers []uint64
	for k := range n {
		numbers = append(numbers, k)
	}
	return numbers
}

// edges are numbers about which something changes: slots, epochs and indices alike.
func edges() []uint64 {
	var numbers []uint64
	for _, at := range []uint64{2, 5, 9, 1 << 32, 1 << 62, 1 << 63, math.MaxUint64 - 2} {
		for k := range uint64(5) {
			numbers = append(numbers, at-2+k)
		}
	}
	return numbers
}
