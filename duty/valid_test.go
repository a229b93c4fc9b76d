package duty_test

import (
	"encoding/hex"
	"math"
	"testing"

	"keystone/api"
	"keystone/duty"
)

func expectValid(t *testing.T, what string, s api.State, x api.Indexed, want bool) {
	t.Helper()
	if got := duty.Valid(s, x); got != want {
		t.Errorf("%s: Valid of %v = %v", what, x.Who, got)
	}
}

// P9.4: tags that are written out, of one, of some, and of as many as there may be.
func TestValidByHand(t *testing.T) {
	v := aVote
	v.Slot, v.Index = 6, 7 // there is no such committee: Valid doesn't ask for one
	tests := []struct {
		who []uint64
		sig string
	}{
		{[]uint64{0}, "fa9a5223a0f946502d0fd0afa7af27c180d80fa0384819c5991c77c037592900"},
		{[]uint64{2, 3, 7}, "da19d633dd07f1a133e4389eed14c05b944ea9de1327bdbfd398c8acc1664c5c"},
		{upTo(32), "8a7ae0ebae450847766444d16d838ea02fec4fcc0552000dc5fbf612a578a186"},
	}
	for _, x := range tests {
		sig, _ := hex.DecodeString(x.sig)
		expectValid(t, "by hand", stateOf(32, 9), api.Indexed{Who: x.who, Data: v, Sig: api.Root(sig)}, true)
	}
}

// P9.4: the tag: each bit of it counts, and each field of the vote, and each voter.
func TestValidTag(t *testing.T) {
	s := stateOf(32, 9)
	x := signed(s, aVote, 3, 8, 31)
	expectValid(t, "as it is", s, x, true)
	for bit := range 256 {
		wrong := x
		wrong.Sig[bit/8] ^= 1 << (bit % 8)
		expectValid(t, "a bit of the tag", s, wrong, false)
	}
	for i, change := range []func(*api.Vote){
		func(v *api.Vote) { v.Slot++ }, func(v *api.Vote) { v.Index++ }, func(v *api.Vote) { v.Block[0]++ },
		func(v *api.Vote) { v.Source.Epoch++ }, func(v *api.Vote) { v.Source.Root[9]++ }, func(v *api.Vote) { v.Target.Epoch++ }, func(v *api.Vote) { v.Target.Root[31]++ },
	} {
		wrong := x
		change(&wrong.Data)
		if duty.Valid(s, wrong) {
			t.Errorf("another vote: the change %d", i)
		}
	}
	for _, who := range [][]uint64{{3, 8}, {8, 31}, {3, 8, 30}, {3, 9, 31}, {3, 8, 9, 31}, {3}} {
		expectValid(t, "other voters", s, api.Indexed{Who: who, Data: aVote, Sig: x.Sig}, false)
	}
	s.Validators[8].Key[5]++
	expectValid(t, "another key", s, x, false)
}

// P9.4: the places rise: those that don't are no valid votes, though the tag is of just these.
func TestValidRising(t *testing.T) {
	s := stateOf(32, 9)
	for _, who := range [][]uint64{{0, 0}, {5, 5}, {1, 0}, {3, 2}, {0, 1, 1}, {0, 0, 1}, {0, 2, 1}, {2, 0, 1}, {0, 1, 2, 3, 3}, {0, 1, 2, 4, 3}, {31, 0}, {1, 1, 1}} {
		expectValid(t, "not rising", s, signed(s, aVote, who...), false)
	}
	for _, who := range [][]uint64{{0}, {31}, {0, 1}, {0, 31}, {7, 9, 30}, upTo(9)} {
		expectValid(t, "rising", s, signed(s, aVote, who...), true)
	}
}

// P9.4: each place is that of a validator.
func TestValidPlaces(t *testing.T) {
	for _, n := range []int{0, 1, 5, 32} {
		s := stateOf(n, 9)
		for _, beyond := range []uint64{uint64(n), uint64(n) + 1, 1 << 32, 1 << 63, math.MaxUint64} {
			expectValid(t, "one beyond", s, signed(s, aVote, beyond), false)
			expectValid(t, "the last beyond", s, signed(s, aVote, append(upTo(uint64(n)), beyond)...), false)
		}
	}
	s := stateOf(5, 9)
	s.Validators = s.Validators[:4] // what stands in spare room is no validator
	expectValid(t, "in spare room", s, signed(stateOf(5, 9), aVote, 2, 4), false)
}

// P9.4: one voter up to 32, whoever there are.
func TestValidHowMany(t *testing.T) {
	s := stateOf(50, 9)
	for n := range uint64(51) {
		expectValid(t, "so many", s, signed(s, aVote, upTo(n)...), n >= 1 && n <= 32)
	}
	expectValid(t, "nobody", s, api.Indexed{Who: []uint64{}, Data: aVote}, false)
	expectValid(t, "nobody of no state", api.State{}, api.Indexed{}, false)
}

// P9.4: of a validator nothing but the key counts, nor of the state anything but its validators.
func TestValidKeysAlone(t *testing.T) {
	s := stateOf(9, 400)
	for i := range s.Validators {
		v := &s.Validators[i]
		v.Effective, v.Slashed, v.Active, v.Exit, v.Withdraw = 0, true, api.FarFuture, 1, 2
	}
	s.Balances, s.Mixes = nil, [8]api.Root{}
	expectValid(t, "gone and slashed", s, signed(s, aVote, 1, 4, 8), true)
}
