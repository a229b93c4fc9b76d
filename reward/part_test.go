package reward_test

import (
	"math"
	"math/rand/v2"
	"testing"

	"keystone/api"
	"keystone/reward"
)

// P11.2: answers worked out by hand: who voted gets his Base by how many voted, who didn't loses it.
func TestPart(t *testing.T) {
	s := eleven()
	expectDeltas(t, "nobody", reward.Part(s, nil), all(11, 0, nil), all(11, 863, nil))
	expectDeltas(t, "everybody", reward.Part(s, votesOf(s, 5, upTo(11)...)), all(11, 863, nil), all(11, 0, nil))

	two := []api.Pending{pendingOf(21, 0, "101")} // 863 * 64 / 352 is 156.9
	expectDeltas(t, "two", reward.Part(s, two), all(11, 0, map[int]uint64{7: 156, 10: 156}), all(11, 863, map[int]uint64{7: 0, 10: 0}))

	eight := []api.Pending{pendingOf(22, 0, "111"), pendingOf(20, 0, "11"), pendingOf(21, 0, "111"), pendingOf(22, 0, "101")} // 863 * 256 / 352 is 627.6
	without := map[int]uint64{2: 0, 3: 0, 4: 0}
	expectDeltas(t, "eight", reward.Part(s, eight), all(11, 627, without), all(11, 0, map[int]uint64{2: 863, 3: 863, 4: 863}))
}

// P11.2: each counts by his effective balance, among the voters and in what he gets.
func TestPartByEffective(t *testing.T) {
	s := eleven()
	s.Validators[7].Effective, s.Validators[10].Effective, s.Validators[0].Effective = 1000, 17000, 3000
	// 277000 together, of the root 526: the Bases are 973, of 7 30, of 10 517, of 0 91. 18 of 277 thousands voted.
	two := []api.Pending{pendingOf(21, 0, "101")}
	up := all(11, 0, map[int]uint64{7: 1, 10: 33})
	expectDeltas(t, "two", reward.Part(s, two), up, all(11, 973, map[int]uint64{7: 0, 10: 0, 0: 91}))
}

// P11.2: while nothing becomes final a voter gets his whole Base, however few voted; the others lose theirs.
func TestPartLeaking(t *testing.T) {
	s := eleven()
	two := []api.Pending{pendingOf(21, 0, "101")}
	down := all(11, 863, map[int]uint64{7: 0, 10: 0})
	s.Finalized.Epoch = 1 // four epochs: no leak yet
	expectDeltas(t, "four epochs", reward.Part(s, two), all(11, 0, map[int]uint64{7: 156, 10: 156}), down)
	s.Finalized.Epoch = 0
	expectDeltas(t, "five epochs", reward.Part(s, two), all(11, 0, map[int]uint64{7: 863, 10: 863}), down)
	expectDeltas(t, "nobody", reward.Part(s, nil), all(11, 0, nil), all(11, 863, nil))
}

// P11.2: one who was slashed is no voter, and loses his Base as long as he is eligible.
func TestPartSlashed(t *testing.T) {
	s := eleven()
	s.Validators[7].Slashed, s.Validators[4].Slashed = true, true
	l := []api.Pending{pendingOf(21, 0, "101")} // one voter's 32000 are left: 863 * 32 / 352
	expectDeltas(t, "active", reward.Part(s, l), all(11, 0, map[int]uint64{10: 78}), all(11, 863, map[int]uint64{10: 0}))

	s.Validators[4].Exit = 5
	for withdraw, lost := range map[uint64]uint64{7: 906, 6: 0} { // ten are active: 320000, of the root 565
		s.Validators[4].Withdraw = withdraw
		down := all(11, 906, map[int]uint64{4: lost})
		expectDeltas(t, "gone", reward.Part(s, nil), all(11, 0, nil), down)
	}
}

// P11.2: who isn't eligible gets and loses nothing; if he votes he counts among the voters.
func TestPartNotEligible(t *testing.T) {
	s := eleven()
	s.Validators[3].Active = 6
	l := votesOf(s, 6, 0, 3) // in the slots 24 and 26
	expectDeltas(t, "came since", reward.Part(s, l), all(11, 0, map[int]uint64{0: 156}), all(11, 863, map[int]uint64{0: 0, 3: 0}))
}

// P11.2: it is held against the total of the state's epoch: of those who are gone since the votes bring more than a Base.
func TestPartAboveBase(t *testing.T) {
	s := eleven()
	s.Validators[4].Exit = 6 // 906 * 352 / 320 is 996.6
	expectDeltas(t, "everybody", reward.Part(s, votesOf(s, 5, upTo(11)...)), all(11, 996, nil), all(11, 0, nil))
}

// P11.2: votes without a committee, and those of epochs that aren't asked for, are as their voters are.
func TestPartOfOtherVotes(t *testing.T) {
	s := eleven()
	for _, l := range [][]api.Pending{
		{pendingOf(21, 1, "111")}, {pendingOf(21, math.MaxUint64, "111")}, {pendingOf(21, 0, "")}, {pendingOf(21, 0, "000")}, {{}},
	} {
		expectDeltas(t, "no voters", reward.Part(s, l), all(11, 0, nil), all(11, 863, nil))
	}
	l := []api.Pending{wrongTarget(wrongHead(taken(pendingOf(21, 0, "101"), 8, 3)))} // which votes count is the caller's choice
	expectDeltas(t, "wrong", reward.Part(s, l), all(11, 0, map[int]uint64{7: 156, 10: 156}), all(11, 863, map[int]uint64{7: 0, 10: 0}))
}

// P11.2: where nobody counts the total is 1000, and Bases of nothing are nothing.
func TestPartOfNothing(t *testing.T) {
	s := eleven()
	for i := range s.Validators {
		s.Validators[i].Effective = 0
	}
	expectDeltas(t, "zero", reward.Part(s, votesOf(s, 5, 1, 2, 3)), all(11, 0, nil), all(11, 0, nil))
	expectDeltas(t, "no validators", reward.Part(api.State{Slot: 27}, []api.Pending{pendingOf(21, 0, "1")}), nil, nil)
}

// P11.2: of states drawn by lot it is what the chapter's words say, of any votes.
func TestPartOfDrawn(t *testing.T) {
	lot := rand.New(rand.NewPCG(11, 2))
	leaking := 0
	for range 300 {
		s := drawn(lot)
		for _, l := range [][]api.Pending{s.Previous, s.Current, modelVotes(s, true, false), modelVotes(s, true, true)} {
			expectModel(t, "Part", reward.Part(s, l), modelPart(s, l))
		}
		if modelDelay(s) > 4 {
			leaking++
		}
	}
	if leaking < 60 || leaking > 240 {
		t.Errorf("of 300 states %d leak", leaking)
	}
}
