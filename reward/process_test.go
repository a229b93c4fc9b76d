package reward_test

import (
	"math/rand/v2"
	"reflect"
	"slices"
	"testing"

	"keystone/api"
	"keystone/reward"
)

// expectProcess: the balances behind an epoch's end; all else stays.
func expectProcess(t *testing.T, s api.State, balances []uint64) {
	t.Helper()
	got := reward.Process(s)
	if !slices.Equal(got.Balances, balances) {
		t.Errorf("slot %d: Balances = %v; want %v", s.Slot, got.Balances, balances)
	}
	got.Balances = s.Balances
	if !reflect.DeepEqual(got, s) {
		t.Errorf("slot %d: something else than the balances was changed", s.Slot)
	}
}

// P11.5: nobody votes: everybody loses three Bases.
func TestAllOfNobody(t *testing.T) {
	s := eleven()
	expectDeltas(t, "nobody", reward.All(s), all(11, 0, nil), all(11, 3*863, nil))
	expectProcess(t, s, all(11, 32000-3*863, nil))
}

// P11.5: everybody votes at once for what is right: everybody gets three Bases, and one less an eighth; proposers more.
func TestAllOfEverybody(t *testing.T) {
	s := eleven()
	s.Previous = votesOf(s, 5, upTo(11)...)
	for i, proposer := range []uint64{3, 8, 8, 0} { // of two, three, three, and three votes
		s.Previous[i].Proposer = proposer
	}
	up := all(11, 3*863+756, map[int]uint64{3: 3*863 + 756 + 2*107, 8: 3*863 + 756 + 6*107, 0: 3*863 + 756 + 3*107})
	expectDeltas(t, "everybody", reward.All(s), up, all(11, 0, nil))
	want := slices.Clone(up)
	for i := range want {
		want[i] += 32000
	}
	expectProcess(t, s, want)
}

// P11.5: each kind of votes counts for itself: for any checkpoint, for the right one, and for the right block too.
func TestAllOfKinds(t *testing.T) {
	s := eleven()
	s.Previous = []api.Pending{
		taken(pendingOf(20, 0, "11"), 1, 4),               // 1 6
		taken(wrongHead(pendingOf(21, 0, "101")), 1, 4),   // 7 10
		taken(wrongTarget(pendingOf(22, 0, "011")), 2, 4), // 5 9
	}
	// Six have voted, four for the right checkpoint, two for the right block: 863 * 192 / 352 is 470.7; * 128: 313.8; * 64: 156.9.
	right, half, wrong := uint64(470+313+156+756), uint64(470+313+756), uint64(470+378)
	up := all(11, 0, map[int]uint64{1: right, 6: right, 7: half, 10: half, 5: wrong, 9: wrong, 4: 6 * 107})
	down := all(11, 3*863, map[int]uint64{1: 0, 6: 0, 7: 863, 10: 863, 5: 2 * 863, 9: 2 * 863})
	expectDeltas(t, "kinds", reward.All(s), up, down)
}

// P11.5: while nothing becomes final who votes at once for what is right loses and gets the same; the others lose all.
func TestAllLeaking(t *testing.T) {
	s := leaking()
	expectDeltas(t, "nobody", reward.All(s), all(11, 0, nil), all(11, 3*863+3347, nil))
	s.Previous = votesOf(s, 5, 1, 2, 3)
	for i := range s.Previous {
		s.Previous[i].Proposer = 9
	}
	up := all(11, 0, map[int]uint64{1: 3345, 2: 3345, 3: 3345, 9: 3 * 107})
	down := all(11, 3*863+3347, map[int]uint64{1: 3345, 2: 3345, 3: 3345})
	expectDeltas(t, "three", reward.All(s), up, down)
	lost := uint64(32000 - 3*863 - 3347)
	expectProcess(t, s, all(11, lost, map[int]uint64{1: 32000, 2: 32000, 3: 32000, 9: lost + 321}))
}

// P11.5: no balance falls below 0; what one gets comes ahead of what one loses.
func TestProcessAtLeastNothing(t *testing.T) {
	s := eleven()
	for balance, want := range map[uint64]uint64{0: 0, 1: 0, 2588: 0, 2589: 0, 2590: 1} {
		s.Balances = all(11, balance, nil)
		expectProcess(t, s, all(11, want, nil))
	}
	s.Previous = []api.Pending{wrongTarget(taken(pendingOf(21, 0, "101"), 1, 3))} // up 156 and 756, down 1726
	for balance, want := range map[uint64]uint64{0: 0, 813: 0, 814: 0, 815: 1, 1000: 186} {
		s.Balances = all(11, 50000, map[int]uint64{7: balance, 10: balance})
		expectProcess(t, s, all(11, 50000-2589, map[int]uint64{7: want, 10: want, 3: 50000 - 2589 + 214}))
	}
}

// P11.5: in the first epoch nothing changes, though votes would bring something.
func TestProcessAtFirst(t *testing.T) {
	for slot := range uint64(4) {
		s := stateOf(5, slot)
		s.Current = votesOf(s, 0, upTo(5)...)
		expectProcess(t, s, s.Balances)
	}
	s := stateOf(5, 4)
	expectProcess(t, s, all(5, 32000-3*1280, nil))
}

// P11.5: balances at their limit grow beyond it; it is another layer's to say that they don't.
func TestProcessAtLimit(t *testing.T) {
	s := eleven()
	s.Balances = all(11, api.MaxBalance, nil)
	s.Previous = votesOf(s, 5, upTo(11)...)
	expectProcess(t, s, all(11, api.MaxBalance+3345, map[int]uint64{0: api.MaxBalance + 3345 + 11*107}))
}

// P11.5: of states drawn by lot they are what the chapter's words say.
func TestAllOfDrawn(t *testing.T) {
	lot := rand.New(rand.NewPCG(11, 5))
	gone := 0
	for range 500 {
		s := drawn(lot)
		expectModel(t, "All", reward.All(s), modelAll(s))
		want := modelBalances(s)
		expectProcess(t, s, want)
		for i, balance := range want {
			if balance == 0 && s.Balances[i] > 0 {
				gone++
			}
		}
	}
	if gone < 100 {
		t.Errorf("in 500 states %d balances fell to 0", gone)
	}
}
