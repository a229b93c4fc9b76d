package just_test

import (
	"math/rand/v2"
	"reflect"
	"slices"
	"sync"
	"testing"

	"keystone/api"
	"keystone/just"
)

// spoil writes over an answer, spare room included.
func spoil(l []api.Pending) {
	l = l[:cap(l)]
	for i := range l {
		bits := l[i].Bits[:cap(l[i].Bits)]
		for k := range bits {
			bits[k] = !bits[k]
		}
		l[i] = api.Pending{Delay: 99}
	}
}

// R6: votes that are answered are new memory, their bits too, and share nothing with one another.
func TestVotesAreNew(t *testing.T) {
	s := voted()
	twice := s.Current[0]
	s.Current = append(s.Current, twice) // of one list of bits
	want := voted()
	want.Current = append(want.Current, pendingOf(21, 0, "111"))
	for _, call := range []func(api.State, uint64) []api.Pending{just.Sources, just.Targets, just.Heads} {
		for _, epoch := range []uint64{4, 5} {
			l := call(s, epoch)
			first := slices.Clone(l[0].Bits)
			spoil(l[1:])
			if !slices.Equal(l[0].Bits, first) {
				t.Error("the bits of two votes are one")
			}
			spoil(l)
			if !reflect.DeepEqual(s, want) {
				t.Fatal("the state was changed by what was done to an answer")
			}
		}
	}
}

// R6: voters are new memory.
func TestVotersAreNew(t *testing.T) {
	s := stateOf(11, 23)
	l := []api.Pending{pendingOf(21, 0, "111")}
	for range 2 {
		got := just.Voters(s, l)
		if !slices.Equal(got, []uint64{7, 8, 10}) {
			t.Errorf("Voters = %v", got)
		}
		for i := range got[:cap(got)] {
			got[:cap(got)][i] = 77
		}
	}
}

// R6: what is handed in stays as it was, spare room included.
func TestArgumentsStay(t *testing.T) {
	lot, again := rand.New(rand.NewPCG(10, 4)), rand.New(rand.NewPCG(10, 4))
	for range 200 {
		s, before := drawn(lot), drawn(again)
		spare := api.Pending{Delay: 7}
		s.Current = append(s.Current, spare)
		some := []uint64{3, 1, 2, 1, 40}
		handed := s
		handed.Current = s.Current[:len(s.Current)-1]
		now := s.Slot / 4
		for _, epoch := range []uint64{now, now - min(now, 1), now + 1} {
			just.Root(handed, epoch)
			just.Sources(handed, epoch)
			just.Targets(handed, epoch)
			just.Heads(handed, epoch)
		}
		just.Voters(handed, handed.Current)
		just.Enough(handed, some[:4])
		just.Process(handed)
		if !same(handed, before) || !reflect.DeepEqual(s.Current[len(s.Current)-1], spare) {
			t.Fatal("the state was changed")
		}
		if !slices.Equal(some, []uint64{3, 1, 2, 1, 40}) {
			t.Fatalf("the list was changed: %v", some)
		}
	}
}

// R5: a nil list is one without elements.
func TestNilIsEmpty(t *testing.T) {
	s := stateOf(9, 23)
	for _, l := range [][]api.Pending{nil, {}} {
		s.Previous, s.Current = l, l
		expectPending(t, "Sources", just.Sources(s, 5), nil)
		expectPending(t, "Targets", just.Targets(s, 4), nil)
		expectPending(t, "Heads", just.Heads(s, 5), nil)
		expectVoters(t, s, l)
		expectProcess(t, s, modelProcess(s))
	}
	if just.Enough(s, nil) || just.Enough(s, []uint64{}) {
		t.Error("nobody is enough")
	}
}

// P1, R9: of states that aren't valid no call panics, and each ends.
func TestOfInvalid(t *testing.T) {
	huge := stateOf(3, 1<<64-1)
	huge.Validators[1].Effective, huge.Validators[2].Exit = 1<<64-1, 0
	huge.PreviousJust.Epoch, huge.CurrentJust.Epoch = 1<<64-1, 1<<64-2
	huge.Current = []api.Pending{pendingOf(1<<64-2, 0, "1"), pendingOf(1<<64-1, 5, "1"), pendingOf(0, 1<<64-1, "")}
	huge.Previous = huge.Current
	crowd := api.State{Slot: 9, Validators: make([]api.Validator, 1<<20+1), Current: []api.Pending{pendingOf(8, 0, "1"), {}}}
	for i := range crowd.Validators {
		crowd.Validators[i].Exit = 9
	}
	early := api.State{Slot: 1, Previous: []api.Pending{{}}, Current: []api.Pending{{}}}
	for _, s := range []api.State{{}, early, huge, crowd} {
		for _, epoch := range []uint64{0, 1, 2, s.Slot / 4, s.Slot/4 - 1, 1 << 62, 1<<64 - 1} {
			just.Root(s, epoch)
			just.Sources(s, epoch)
			just.Targets(s, epoch)
			just.Heads(s, epoch)
		}
		just.Voters(s, s.Current)
		just.Enough(s, []uint64{0, 1, 1 << 63})
		just.Process(s)
	}
}

// R8: calls side by side, of one state, answer as one alone, time and again.
func TestSideBySide(t *testing.T) {
	lot := rand.New(rand.NewPCG(10, 5))
	s := drawn(lot)
	for s.Slot < 30 || len(s.Validators) < 20 || len(s.Current) < 5 {
		s = drawn(lot)
	}
	voters, after := modelVoters(s, s.Current), modelProcess(s)
	var wait sync.WaitGroup
	for range 16 {
		wait.Go(func() {
			expectVoters(t, s, s.Current, voters...)
			expectProcess(t, s, after)
			expectPending(t, "Heads", just.Heads(s, s.Slot/4), modelHeads(s, s.Slot/4))
		})
	}
	wait.Wait()
}
