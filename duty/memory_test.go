package duty_test

import (
	"reflect"
	"slices"
	"sync"
	"testing"

	"keystone/api"
	"keystone/duty"
)

// spoil writes over an answer, spare room included.
func spoil(l []uint64) {
	for i := range l[:cap(l)] {
		l[:cap(l)][i] = 1 << 50
	}
}

// R6, R8: a committee is new memory: what is done to it changes no later answer of the table.
func TestCommitteeIsNew(t *testing.T) {
	s := stateOf(21, 9)
	table := duty.Make(s, 2)
	for range 2 {
		for slot := uint64(8); slot < 12; slot++ {
			for index := range uint64(2) {
				got, e := table.Of(slot, index)
				expectList(t, "Of", got, e, modelCommittee(s, slot, index), api.OK)
				spoil(got)
			}
		}
	}
}

// R6: a table keeps nothing of the state that it was made of.
func TestTableKeepsNothing(t *testing.T) {
	s := stateOf(21, 9)
	want := modelCommittee(s, 9, 1)
	table := duty.Make(s, 2)
	for i := range s.Validators {
		s.Validators[i].Exit = 0
	}
	got, e := table.Of(9, 1)
	expectList(t, "Of", got, e, want, api.OK)
}

// R6: lists of an answer share nothing with what was handed in, nor with one another.
func TestAnswersAreNew(t *testing.T) {
	s := stateOf(32, 7)
	for range 2 {
		active := duty.Active(s, 1)
		expectList(t, "Active", active, api.OK, upTo(32), api.OK)
		x, e := duty.Index(s, api.Attestation{Bits: all(4), Data: aVote})
		expectList(t, "Index", x.Who, e, []uint64{6, 15, 20, 23}, api.OK)
		spoil(active)
		spoil(x.Who)
	}
}

// R6: what is handed in stays as it was, spare room included.
func TestArgumentsStay(t *testing.T) {
	s := comeAndGo(41)
	s.Validators = append(s.Validators, api.Validator{Slashed: true})[:24]
	before := comeAndGo(41)
	bits := []bool{true, false, true, true, false, true}
	who := []uint64{0, 3, 7, 2, 1}
	for _, bits := range [][]bool{bits[:3], bits[:2]} {
		duty.Who(s, api.Vote{Slot: 40, Index: 1}, bits)
		duty.Index(s, api.Attestation{Bits: bits, Data: api.Vote{Slot: 40}})
	}
	duty.Make(s, 10)
	duty.Proposer(s)
	duty.Active(s, 10)
	duty.Valid(s, signed(s, aVote, who[:3]...))
	duty.Valid(s, signed(s, aVote, who[:4]...))
	duty.Total(s, who[:4])
	if !reflect.DeepEqual(s, before) || !s.Validators[:25][24].Slashed {
		t.Error("the state was changed")
	}
	if !slices.Equal(bits, []bool{true, false, true, true, false, true}) || !slices.Equal(who, []uint64{0, 3, 7, 2, 1}) {
		t.Errorf("a list was changed: %v, %v", bits, who)
	}
}

// R5: a nil list is one without elements.
func TestNilIsEmpty(t *testing.T) {
	none, empty := api.State{}, api.State{Validators: []api.Validator{}, Balances: []uint64{}}
	for _, s := range []api.State{none, empty} {
		expectList(t, "Active", duty.Active(s, 0), api.OK, nil, api.OK)
		expectCommittee(t, s, 0, 0, nil, api.OK)
		expectProposer(t, s, 0, api.ErrEmpty)
		expectWho(t, s, api.Vote{}, nil, nil, api.OK)
		expectWho(t, s, api.Vote{}, []bool{}, nil, api.OK)
	}
}

// R8: calls side by side, of one state and one table, answer as one alone.
func TestSideBySide(t *testing.T) {
	s := stateOf(32, 101)
	table := duty.Make(s, 25)
	proposer, errno := modelProposer(s)
	var wait sync.WaitGroup
	for k := range uint64(16) {
		slot, index := 100+k%4, k/4%2
		want := modelCommittee(s, slot, index)
		wait.Go(func() {
			got, e := table.Of(slot, index)
			expectList(t, "Of", got, e, want, api.OK)
			spoil(got)
			expectCommittee(t, s, slot, index, want, api.OK)
			expectProposer(t, s, proposer, errno)
		})
	}
	wait.Wait()
}
