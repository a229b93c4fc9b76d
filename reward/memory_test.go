package reward_test

import (
	"math"
	"math/rand/v2"
	"reflect"
	"slices"
	"sync"
	"testing"

	"keystone/api"
	"keystone/reward"
)

// deltaCalls are the calls that answer deltas.
var deltaCalls = map[string]func(api.State) reward.Deltas{
	"Part":      func(s api.State) reward.Deltas { return reward.Part(s, s.Previous) },
	"Inclusion": reward.Inclusion,
	"Leak":      reward.Leak,
	"All":       reward.All,
}

// spoil writes over a list, spare room included.
func spoil(l []uint64) {
	for i := range l[:cap(l)] {
		l[:cap(l)][i] = 77
	}
}

// busy is a state that leaks, with votes of all kinds.
func busy() api.State {
	s := leaking()
	s.Previous = []api.Pending{taken(pendingOf(21, 0, "110"), 3, 2), taken(pendingOf(21, 0, "111"), 1, 4), wrongTarget(pendingOf(20, 0, "01"))}
	s.Current = votesOf(s, 6, 1, 2, 3)
	return s
}

// R6, R8: what is answered is new memory, its two lists too: writing over it changes neither the state nor a later answer.
func TestAnswersAreNew(t *testing.T) {
	s := busy()
	for name, call := range deltaCalls {
		want, d := call(busy()), call(s)
		spoil(d.Up)
		if !slices.Equal(d.Down, want.Down) {
			t.Errorf("%s: the two lists share memory", name)
		}
		spoil(d.Down)
		expectDeltas(t, name, call(s), want.Up, want.Down)
	}
	spoil(reward.Eligible(s))
	expectEligible(t, s, upTo(11)...)
	u := reward.Process(s)
	spoil(u.Balances)
	if !reflect.DeepEqual(s, busy()) {
		t.Error("the state was changed by what was done to an answer")
	}
}

// R6: what is handed in stays as it was, spare room included.
func TestArgumentsStay(t *testing.T) {
	lot, again := rand.New(rand.NewPCG(11, 6)), rand.New(rand.NewPCG(11, 6))
	spare := api.Pending{Delay: 7, Bits: []bool{true}}
	for range 200 {
		s, before := drawn(lot), drawn(again)
		s.Previous, s.Current = append(s.Previous, spare), append(s.Current, spare)
		s.Balances = append(s.Balances, 55)
		handed := s
		handed.Previous, handed.Current = s.Previous[:len(s.Previous)-1], s.Current[:len(s.Current)-1]
		handed.Balances = s.Balances[:len(s.Balances)-1]
		for _, call := range deltaCalls {
			call(handed)
		}
		reward.Part(handed, handed.Current)
		reward.Base(handed, 0)
		reward.Eligible(handed)
		reward.Delay(handed)
		reward.Leaking(handed)
		reward.Process(handed)
		before.Previous, before.Current, before.Balances = append(before.Previous, spare), append(before.Current, spare), append(before.Balances, 55)
		if !reflect.DeepEqual(s, before) {
			t.Fatal("the state was changed")
		}
	}
}

// R5: a nil list is one without elements.
func TestNilIsEmpty(t *testing.T) {
	s := eleven()
	for _, l := range [][]api.Pending{nil, {}} {
		s.Previous, s.Current = l, l
		expectDeltas(t, "Part", reward.Part(s, l), all(11, 0, nil), all(11, 863, nil))
		expectDeltas(t, "Inclusion", reward.Inclusion(s), all(11, 0, nil), all(11, 0, nil))
		expectProcess(t, s, all(11, 32000-2589, nil))
	}
}

// touch calls all of the layer's functions.
func touch(s api.State) {
	for _, call := range deltaCalls {
		d := call(s)
		_ = d.Up[:len(s.Validators)]
		_ = d.Down[:len(s.Validators)]
	}
	reward.Part(s, s.Current)
	for _, i := range []uint64{0, 1, uint64(len(s.Validators)), 1 << 63, math.MaxUint64} {
		reward.Base(s, i)
	}
	reward.Eligible(s)
	reward.Delay(s)
	reward.Leaking(s)
	reward.Process(s)
}

// P1, R9: of states that aren't valid no call panics, and each ends.
func TestOfInvalid(t *testing.T) {
	huge := stateOf(3, math.MaxUint64)
	huge.Validators[1].Effective, huge.Validators[2].Exit = math.MaxUint64, 0
	huge.Validators[2].Slashed = true
	huge.Previous = []api.Pending{pendingOf(1<<64-8, 0, "1"), pendingOf(1<<64-6, 5, "1"), pendingOf(0, math.MaxUint64, ""), {}}
	early := api.State{Slot: 1, Previous: []api.Pending{{}}, Current: []api.Pending{{}}}
	crowd := api.State{Slot: 9, Validators: make([]api.Validator, 1<<20+1), Previous: []api.Pending{pendingOf(7, 0, "1"), {}}}
	for i := range crowd.Validators {
		crowd.Validators[i].Exit = 9
	}
	for _, s := range []api.State{{}, {Slot: 27, Balances: []uint64{5, 6}}, early, huge, crowd} {
		touch(s)
	}
	crowd.Validators = crowd.Validators[:1<<16] // so many have committees
	touch(crowd)
}

// P1, R9: votes that no valid state has: taken at once, by nobody, or with other bits than members.
func TestOfInvalidVotes(t *testing.T) {
	s := eleven()
	for _, delay := range []uint64{0, 9, math.MaxUint64} {
		for _, proposer := range []uint64{11, 1 << 63, math.MaxUint64} {
			s.Previous = []api.Pending{taken(pendingOf(21, 0, "101"), delay, proposer), taken(pendingOf(20, 0, "1"), delay, 0), taken(pendingOf(22, 0, "11111"), delay, 1)}
			s.Current = s.Previous
			touch(s)
		}
	}
}

// P1, R9: fewer balances than validators, or more: no call panics, and no balance comes or goes.
func TestOfOtherBalances(t *testing.T) {
	for n := range 30 {
		s := eleven()
		s.Balances = all(n, 32000, nil)
		if got := reward.Process(s); len(got.Balances) != n {
			t.Errorf("of %d balances %d are left", n, len(got.Balances))
		}
	}
}

// R8: calls side by side, of one state, answer as one alone, time and again.
func TestSideBySide(t *testing.T) {
	s, want, balances := busy(), modelAll(busy()), modelBalances(busy())
	var wait sync.WaitGroup
	for range 16 {
		wait.Go(func() {
			expectModel(t, "All", reward.All(s), want)
			expectProcess(t, s, balances)
		})
	}
	wait.Wait()
}
