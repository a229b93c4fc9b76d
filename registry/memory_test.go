package registry_test

import (
	"math"
	"math/rand/v2"
	"sync"
	"testing"

	"keystone/api"
	"keystone/registry"
)

// calls are the calls that answer a state, of a validator in the middle where they ask for one.
func calls() map[string]func(api.State) api.State {
	middle := func(s api.State) uint64 { return uint64(len(s.Validators) / 2) }
	return map[string]func(api.State) api.State{
		"Leave":     func(s api.State) api.State { return registry.Leave(s, middle(s)) },
		"Slash":     func(s api.State) api.State { return registry.Slash(s, middle(s), 0, uint64(len(s.Validators)-1)) },
		"no Leave":  func(s api.State) api.State { return registry.Leave(s, math.MaxUint64) },
		"no Slash":  func(s api.State) api.State { return registry.Slash(s, 0, 0, math.MaxUint64) },
		"Process":   registry.Process,
		"Fine":      registry.Fine,
		"Effective": registry.Effective,
	}
}

// busy is a state in which each call changes something.
func busy() api.State {
	s := stateOf(9, 27)
	s.Finalized.Epoch = 5
	s.Validators[0].Effective = 16000
	s.Validators[1] = waiting(s.Validators[1], 4)
	s.Validators[2] = waiting(s.Validators[2], api.FarFuture)
	s.Validators[3].Slashed, s.Validators[3].Withdraw = true, 10
	s.Fines[2] = 100000
	s.Balances[4], s.Balances[5] = 20000, 40000
	s.EthVotes = []api.Eth{{Count: 3}}
	s.Previous, s.Current = []api.Pending{{Delay: 1, Bits: []bool{true}}}, []api.Pending{{Delay: 2}}
	return s
}

// R6: what is handed in stays as it was, spare room included, and so does all that the chapter doesn't name.
func TestArgumentsStay(t *testing.T) {
	lot, again := rand.New(rand.NewPCG(12, 6)), rand.New(rand.NewPCG(12, 6))
	room := func(s api.State) api.State {
		s.Validators = append(s.Validators, api.Validator{Effective: 7, Eligible: api.FarFuture, Exit: api.FarFuture})
		s.Balances = append(s.Balances, 55)
		return s
	}
	for range 500 {
		s, before := room(drawn(lot)), room(drawn(again))
		handed := s
		handed.Validators, handed.Balances = s.Validators[:len(s.Validators)-1], s.Balances[:len(s.Balances)-1]
		registry.Churn(handed)
		for name, call := range calls() {
			call(handed)
			expectState(t, name+" on what is handed in", s, before)
		}
	}
}

// R6: a state that was answered may share lists with the one that was handed in: later calls of either change neither.
func TestAnswersStay(t *testing.T) {
	for first, call := range calls() {
		s := busy()
		u := call(s)
		want := same(u)
		for name, other := range calls() {
			other(u)
			expectState(t, name+" behind "+first, u, want)
			other(other(s))
			expectState(t, name+" beside "+first, u, want)
			expectState(t, name+" behind "+first+", handed in", s, busy())
		}
	}
}

// R6: what a call changes is in new memory: writing over it, spare room included, doesn't change what was handed in.
func TestChangedListsAreNew(t *testing.T) {
	s := busy()
	for _, l := range [][]api.Validator{registry.Leave(s, 5).Validators, registry.Slash(s, 5, 0, 1).Validators, registry.Process(s).Validators, registry.Effective(s).Validators} {
		clear(l[:cap(l)])
	}
	for _, l := range [][]uint64{registry.Slash(s, 5, 0, 1).Balances, registry.Fine(s).Balances} {
		clear(l[:cap(l)])
	}
	expectState(t, "handed in", s, busy())
}

// R5: a nil list is one without elements.
func TestNilIsEmpty(t *testing.T) {
	for _, s := range []api.State{{Slot: 27}, {Slot: 27, Validators: []api.Validator{}, Balances: []uint64{}}} {
		if got := registry.Churn(s); got != 2 {
			t.Errorf("Churn = %d", got)
		}
		for name, call := range calls() {
			u := call(s)
			if len(u.Validators) != 0 || len(u.Balances) != 0 || u.Slot != 27 || u.Fines != s.Fines {
				t.Errorf("%s of a state without validators: %+v", name, u)
			}
		}
	}
}

// touch calls all of the layer's functions.
func touch(s api.State) {
	registry.Churn(s)
	for _, call := range calls() {
		call(s)
	}
	for _, i := range []uint64{0, 1, uint64(len(s.Validators)), 1 << 63, math.MaxUint64} {
		registry.Soon(i)
		registry.Leave(s, i)
		registry.Slash(s, i, 0, 1)
		registry.Slash(s, 1, i, 0)
		registry.Slash(s, 0, 1, i)
	}
}

// P1, R9: of states that aren't valid no call panics, and each ends: be there nobody, or a crowd.
func TestOfInvalid(t *testing.T) {
	huge := stateOf(4, math.MaxUint64)
	huge.Validators[1].Effective, huge.Validators[2].Exit, huge.Validators[3].Exit = math.MaxUint64, 0, math.MaxUint64-1
	huge.Validators[2].Slashed, huge.Validators[2].Withdraw = true, 1<<62+3
	huge.Finalized.Epoch = math.MaxUint64
	for i := range huge.Balances {
		huge.Balances[i] = math.MaxUint64 - uint64(i)
	}
	for i := range huge.Fines {
		huge.Fines[i] = math.MaxUint64
	}
	crowd := api.State{Slot: 27, Validators: make([]api.Validator, 1<<20+1), Balances: make([]uint64, 1<<20+1)}
	for i := range crowd.Validators { // all of them leave at once
		crowd.Validators[i].Exit = api.FarFuture
	}
	for _, s := range []api.State{{}, {Slot: 27, Balances: []uint64{5, 6}}, huge, crowd} {
		touch(s)
	}
	for i := range crowd.Validators { // all of them wait
		crowd.Validators[i].Active = api.FarFuture
	}
	touch(crowd)
}

// P1, R9: fewer balances than validators, or more: no call panics, and none comes or goes.
func TestOfOtherBalances(t *testing.T) {
	for n := range 20 {
		s := busy()
		s.Balances = make([]uint64, n)
		touch(s)
		for name, call := range calls() {
			if u := call(s); len(u.Balances) != n || len(u.Validators) != 9 {
				t.Errorf("%s: of %d balances %d are left, of 9 validators %d", name, n, len(u.Balances), len(u.Validators))
			}
		}
	}
}

// R8: calls side by side, of one state, answer as one alone, time and again.
func TestSideBySide(t *testing.T) {
	s := busy()
	want := map[string]api.State{}
	for name, call := range calls() {
		want[name] = call(busy())
	}
	var wait sync.WaitGroup
	for range 16 {
		wait.Go(func() {
			for name, call := range calls() {
				expectState(t, name, call(s), want[name])
			}
		})
	}
	wait.Wait()
}
