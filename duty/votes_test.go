package duty_test

import (
	"math"
	"reflect"
	"slices"
	"testing"

	"keystone/api"
	"keystone/duty"
)

// aVote is for the slot 100, of whose first committee stateOf(32, 7) has 20, 6, 23, 15.
var aVote = api.Vote{
	Slot: 100, Index: 0, Block: rootOf(8),
	Source: api.Checkpoint{Epoch: 9, Root: rootOf(10)},
	Target: api.Checkpoint{Epoch: 11, Root: rootOf(12)},
}

// expectWho asks both ways: for the places alone, and for the attestation by its places.
func expectWho(t *testing.T, s api.State, v api.Vote, bits []bool, who []uint64, errno api.Errno) {
	t.Helper()
	got, e := duty.Who(s, v, bits)
	expectList(t, "Who", got, e, who, errno)
	x, e := duty.Index(s, api.Attestation{Bits: bits, Data: v, Sig: rootOf(77)})
	expectList(t, "Index", x.Who, e, who, errno)
	if errno != api.OK && !reflect.ValueOf(x).IsZero() {
		t.Errorf("Index answers %v beside %d", x, errno)
	}
	if errno == api.OK && (x.Data != v || x.Sig != rootOf(77)) {
		t.Errorf("Index answers %v, %v of %v", x.Data, x.Sig, v)
	}
}

// P9.3: Who and Index, with answers written out, of each choice of four members.
func TestWhoByHand(t *testing.T) {
	tests := [][]uint64{
		nil, {20}, {6}, {6, 20}, {23}, {20, 23}, {6, 23}, {6, 20, 23},
		{15}, {15, 20}, {6, 15}, {6, 15, 20}, {15, 23}, {15, 20, 23}, {6, 15, 23}, {6, 15, 20, 23},
	}
	for choice, want := range tests {
		bits := []bool{choice&1 != 0, choice&2 != 0, choice&4 != 0, choice&8 != 0}
		expectWho(t, stateOf(32, 7), aVote, bits, want, api.OK)
	}
}

// P9.3: Who of every committee, with all its members and with every second one.
func TestWho(t *testing.T) {
	for _, n := range []int{1, 7, 16, 19, 32, 100} {
		s := stateOf(n, 50)
		for slot := uint64(40); slot < 60; slot++ {
			for index := range modelCount(n) {
				expectWhoOf(t, s, slot, index)
			}
		}
	}
	for slot := range uint64(60) {
		expectWhoOf(t, comeAndGo(9), slot, 0)
	}
}

func expectWhoOf(t *testing.T, s api.State, slot, index uint64) {
	t.Helper()
	members := modelCommittee(s, slot, index)
	some, bits := []uint64{}, make([]bool, len(members))
	for i := 0; i < len(members); i += 2 {
		bits[i] = true
		some = append(some, members[i])
	}
	slices.Sort(some)
	slices.Sort(members)
	v := api.Vote{Slot: slot, Index: index}
	expectWho(t, s, v, all(len(members)), members, api.OK)
	expectWho(t, s, v, bits, some, api.OK)
}

// P9.3: ErrRange if there aren't just as many bits as members, or there is no such committee.
func TestWhoRange(t *testing.T) {
	s := stateOf(32, 7)
	for n := range 70 {
		if n != 4 {
			expectWho(t, s, aVote, all(n), nil, api.ErrRange)
			expectWho(t, s, aVote, make([]bool, n), nil, api.ErrRange)
		}
	}
	for _, index := range []uint64{2, 3, 8, math.MaxUint64} {
		v := aVote
		v.Index = index
		for n := range 6 {
			expectWho(t, s, v, all(n), nil, api.ErrRange)
		}
	}
	expectWho(t, stateOf(15, 7), api.Vote{Slot: 100, Index: 1}, nil, nil, api.ErrRange)
}

// P9.3: of a committee without members no bit is just right.
func TestWhoOfNobody(t *testing.T) {
	expectWho(t, stateOf(0, 7), aVote, nil, nil, api.OK)
	expectWho(t, stateOf(0, 7), aVote, []bool{}, nil, api.OK)
	expectWho(t, stateOf(0, 7), aVote, []bool{false}, nil, api.ErrRange)
	expectWho(t, stateOf(3, 7), api.Vote{Slot: 0}, nil, nil, api.OK) // three members are of the later slots
	expectWho(t, stateOf(3, 7), api.Vote{Slot: 0}, []bool{true}, nil, api.ErrRange)
}

// P9.3: of a vote nothing but Slot and Index says whose committee it is.
func TestWhoHangsOn(t *testing.T) {
	bare := api.Vote{Slot: 100}
	expectWho(t, stateOf(32, 7), bare, all(4), []uint64{6, 15, 20, 23}, api.OK)
	bare.Target.Epoch, bare.Source.Epoch = math.MaxUint64, 3
	expectWho(t, stateOf(32, 7), bare, all(4), []uint64{6, 15, 20, 23}, api.OK)
}

// votes is all votes with epochs below 4, and roots of which each is one of two.
func votes() []api.Vote {
	var every []api.Vote
	for k := range uint64(4 * 4 * 4) {
		v := api.Vote{Slot: 3, Source: api.Checkpoint{Epoch: k % 4}, Target: api.Checkpoint{Epoch: k / 4 % 4}}
		v.Block[0] = byte(k / 16 % 2)
		v.Target.Root[31] = byte(k / 32)
		every = append(every, v)
	}
	return every
}

// P9.4: Slashable of each two of some votes: two for one target, or a around b.
func TestSlashable(t *testing.T) {
	for i, a := range votes() {
		for j, b := range votes() {
			one := i != j && a.Target.Epoch == b.Target.Epoch
			around := a.Source.Epoch < b.Source.Epoch && b.Target.Epoch < a.Target.Epoch
			if got := duty.Slashable(a, b); got != (one || around) {
				t.Errorf("Slashable(%v, %v) = %v", a, b, got)
			}
		}
	}
}

// P9.4: votes for one target epoch that differ in one field alone are slashable, whichever it is; a vote and itself aren't.
func TestSlashableFields(t *testing.T) {
	changes := []func(*api.Vote){
		func(v *api.Vote) { v.Slot++ }, func(v *api.Vote) { v.Index++ }, func(v *api.Vote) { v.Block[31]++ },
		func(v *api.Vote) { v.Source.Epoch++ }, func(v *api.Vote) { v.Source.Epoch-- }, func(v *api.Vote) { v.Source.Root[0]++ },
		func(v *api.Vote) { v.Target.Root[31]++ },
	}
	for _, target := range []uint64{0, 11, math.MaxUint64} {
		a := aVote
		a.Target.Epoch = target
		if duty.Slashable(a, a) {
			t.Errorf("target %d: a vote and itself", target)
		}
		for i, change := range changes {
			b := a
			change(&b)
			if !duty.Slashable(a, b) || !duty.Slashable(b, a) {
				t.Errorf("target %d: votes that differ by the change %d", target, i)
			}
			b.Target.Epoch++
			if duty.Slashable(a, b) && i != 3 && i != 4 {
				t.Errorf("change %d: votes for two targets", i)
			}
		}
	}
}

// P9.4: epochs at the end of the numbers.
func TestSlashableAtTheEnd(t *testing.T) {
	vote := func(source, target uint64) api.Vote {
		return api.Vote{Source: api.Checkpoint{Epoch: source}, Target: api.Checkpoint{Epoch: target}}
	}
	tests := []struct {
		a, b   api.Vote
		ab, ba bool
	}{
		{vote(0, math.MaxUint64), vote(1, math.MaxUint64-1), true, false},
		{vote(0, math.MaxUint64), vote(math.MaxUint64, 0), true, false},
		{vote(0, math.MaxUint64), vote(0, math.MaxUint64-1), false, false},
		{vote(1<<63-1, 1<<63+1), vote(1<<63, 1<<63), true, false},
		{vote(5, 6), vote(6, 7), false, false},
		{vote(5, 7), vote(6, 7), true, true},
	}
	for _, x := range tests {
		if got := duty.Slashable(x.a, x.b); got != x.ab {
			t.Errorf("Slashable(%v, %v) = %v", x.a, x.b, got)
		}
		if got := duty.Slashable(x.b, x.a); got != x.ba {
			t.Errorf("Slashable(%v, %v) = %v", x.b, x.a, got)
		}
	}
}
