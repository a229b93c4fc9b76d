package reward_test

import (
	"math/rand/v2"
	"testing"

	"keystone/api"
	"keystone/reward"
)

// expectLeak: what validators lose; nobody gets anything.
func expectLeak(t *testing.T, s api.State, down []uint64) {
	t.Helper()
	expectDeltas(t, "Leak", reward.Leak(s), all(len(s.Validators), 0, nil), down)
}

// leaking is eleven, with nothing final for five epochs: each loses 4 * 863 - 107 = 3345, and 32000 * 5 / 65536 = 2 without a vote.
func leaking() api.State {
	s := eleven()
	s.Finalized.Epoch = 0
	return s
}

// P11.4: nothing, unless nothing has become final for more than four epochs.
func TestLeakNot(t *testing.T) {
	s := leaking()
	for s.Finalized.Epoch = uint64(1); s.Finalized.Epoch < 7; s.Finalized.Epoch++ {
		expectLeak(t, s, all(11, 0, nil))
	}
	for s.Slot = range uint64(24) {
		s.Finalized.Epoch = 0
		expectLeak(t, s, all(11, 0, nil))
	}
	s.Slot = 24
	expectLeak(t, s, all(11, 3347, nil))
}

// P11.4: all lose what a vote brings; those who didn't vote for the right checkpoint more.
func TestLeak(t *testing.T) {
	s := leaking()
	expectLeak(t, s, all(11, 3347, nil))
	s.Previous = votesOf(s, 5, upTo(11)...)
	expectLeak(t, s, all(11, 3345, nil))
	s.Previous = []api.Pending{pendingOf(21, 0, "101")}
	expectLeak(t, s, all(11, 3347, map[int]uint64{7: 3345, 10: 3345}))
}

// P11.4: a vote for another checkpoint, or of another epoch, doesn't help; one for another block does, and one that was taken late.
func TestLeakByTarget(t *testing.T) {
	s := leaking()
	s.Current = votesOf(s, 6, upTo(11)...)
	s.Previous = []api.Pending{wrongTarget(pendingOf(20, 0, "11")), wrongHead(taken(pendingOf(21, 0, "101"), 8, 2))}
	expectLeak(t, s, all(11, 3347, map[int]uint64{7: 3345, 10: 3345}))
}

// P11.4: the longer it goes on the more they lose, by their effective balances.
func TestLeakGrows(t *testing.T) {
	for _, x := range []struct{ delay, effective, lost uint64 }{
		{1000, 32000, 488}, {65536, 32000, 32000}, {1<<30 - 1, 32000, 524287999},
		{65, 1000, 0}, {66, 1000, 1}, {131, 1000, 1}, {132, 1000, 2}, {5, 13000, 0}, {5, 14000, 1}, {65536, 0, 0},
	} {
		s := stateOf(2, 4*x.delay+7) // the epoch ahead has the number delay
		s.Slot = min(s.Slot, api.MaxSlot)
		s.Finalized.Epoch = s.Slot/4 - 1 - x.delay
		s.Validators[1].Effective = x.effective
		base := reward.Base(s, 1)
		if got := reward.Leak(s); got.Down[1] != 4*base-base/8+x.lost {
			t.Errorf("%+v: Leak = %d, of the Base %d", x, got.Down[1], base)
		}
	}
}

// P11.4: one who was slashed loses as one who didn't vote, though he is gone, until he may go; who isn't eligible loses nothing.
func TestLeakEligible(t *testing.T) {
	s := leaking()
	s.Previous = votesOf(s, 5, upTo(11)...)
	s.Validators[7].Slashed = true
	expectLeak(t, s, all(11, 3345, map[int]uint64{7: 3347}))
	s.Validators[7].Exit = 5 // ten are active: the Base 906
	want := uint64(4*906 - 113)
	for withdraw, lost := range map[uint64]uint64{7: want + 2, 6: 0} {
		s.Validators[7].Withdraw = withdraw
		s.Previous = votesOf(s, 5, upTo(11)...)
		expectLeak(t, s, all(11, want, map[int]uint64{7: lost}))
	}
	s = leaking()
	s.Validators[4].Active = 6
	expectLeak(t, s, all(11, 3347, map[int]uint64{4: 0}))
}

// P11.4: of states drawn by lot it is what the chapter's words say.
func TestLeakOfDrawn(t *testing.T) {
	lot := rand.New(rand.NewPCG(11, 4))
	for range 500 {
		s := drawn(lot)
		expectModel(t, "Leak", reward.Leak(s), modelLeak(s))
	}
}
