package reward_test

import (
	"math/rand/v2"
	"testing"

	"keystone/api"
	"keystone/reward"
)

// expectInclusion: what some votes of the epoch ahead bring to the validators at some places; nobody loses.
func expectInclusion(t *testing.T, s api.State, l []api.Pending, up map[int]uint64) {
	t.Helper()
	n := len(s.Validators)
	s.Previous = l
	expectDeltas(t, "Inclusion", reward.Inclusion(s), all(n, 0, up), all(n, 0, nil))
}

// P11.3: of a Base of 863 the one who took the vote gets 107, the voter 756 by the slots that went by.
func TestInclusion(t *testing.T) {
	s := eleven()
	expectInclusion(t, s, nil, nil)
	for i, want := range []uint64{756, 378, 252, 189, 151, 126, 108, 94} {
		p := taken(pendingOf(21, 0, "101"), uint64(i+1), 3)
		expectInclusion(t, s, []api.Pending{p}, map[int]uint64{7: want, 10: want, 3: 214})
	}
}

// P11.3: each by his own Base, also what goes to the one who took his vote.
func TestInclusionByEffective(t *testing.T) {
	s := eleven()
	s.Validators[7].Effective, s.Validators[10].Effective, s.Validators[3].Effective = 1000, 17000, 0
	// 274000 together, of the root 523: the Bases are 30 and 520.
	p := taken(pendingOf(21, 0, "101"), 2, 3)
	expectInclusion(t, s, []api.Pending{p}, map[int]uint64{7: (30 - 3) / 2, 10: (520 - 65) / 2, 3: 3 + 65})
}

// P11.3: one may take his own vote, and those of others, of many committees.
func TestInclusionOfMany(t *testing.T) {
	s := eleven()
	l := []api.Pending{
		taken(pendingOf(20, 0, "11"), 1, 1), taken(pendingOf(21, 0, "010"), 3, 1),
		taken(pendingOf(22, 0, "001"), 4, 9), taken(pendingOf(23, 0, "000"), 1, 9),
	}
	expectInclusion(t, s, l, map[int]uint64{1: 756 + 3*107, 6: 756, 8: 252, 5: 189, 9: 107})
}

// P11.3: of more than one vote of a validator the one that was taken soonest counts, wherever it stands.
func TestInclusionSoonest(t *testing.T) {
	s := eleven()
	late, soon, later := taken(pendingOf(21, 0, "110"), 4, 2), taken(pendingOf(21, 0, "011"), 2, 3), taken(pendingOf(21, 0, "111"), 8, 4)
	up := map[int]uint64{10: 189, 8: 378, 7: 378, 2: 107, 3: 214}
	for _, l := range [][]api.Pending{{late, soon, later}, {soon, late, later}, {later, late, soon}, {soon, later, late}} {
		expectInclusion(t, s, l, up)
	}
}

// P11.3: of those that were taken equally soon the first counts, whichever its proposer.
func TestInclusionFirst(t *testing.T) {
	s := eleven()
	a, b := taken(pendingOf(21, 0, "110"), 2, 4), taken(pendingOf(21, 0, "111"), 2, 3)
	expectInclusion(t, s, []api.Pending{a, b}, map[int]uint64{10: 378, 8: 378, 7: 378, 4: 214, 3: 107})
	expectInclusion(t, s, []api.Pending{b, a}, map[int]uint64{10: 378, 8: 378, 7: 378, 3: 321})
	late := taken(pendingOf(21, 0, "111"), 3, 5)
	expectInclusion(t, s, []api.Pending{late, a, b, late}, map[int]uint64{10: 378, 8: 378, 7: 378, 4: 214, 3: 107})

	var l []api.Pending // so many that an unsteady sort would mix them
	for k := range uint64(32) {
		l = append(l, taken(pendingOf(21, 0, "111"), 1+k%2, k%11))
	}
	expectInclusion(t, s, l, map[int]uint64{10: 756, 8: 756, 7: 756, 0: 321})
}

// P11.3: votes for another checkpoint, or block, count here.
func TestInclusionOfWrong(t *testing.T) {
	s := eleven()
	p := wrongHead(wrongTarget(taken(pendingOf(21, 0, "101"), 1, 3)))
	expectInclusion(t, s, []api.Pending{p, taken(pendingOf(21, 0, "101"), 2, 4)}, map[int]uint64{7: 756, 10: 756, 3: 214})
}

// P11.3: nothing comes of the vote of one who was slashed; a proposer who was gets what others get.
func TestInclusionSlashed(t *testing.T) {
	s := eleven()
	s.Validators[7].Slashed, s.Validators[3].Slashed = true, true
	expectInclusion(t, s, []api.Pending{taken(pendingOf(21, 0, "101"), 1, 3)}, map[int]uint64{10: 756, 3: 107})
}

// P11.3: it is no matter whether anything becomes final.
func TestInclusionLeaking(t *testing.T) {
	s := eleven()
	s.Finalized.Epoch = 0
	expectInclusion(t, s, []api.Pending{taken(pendingOf(21, 0, "101"), 2, 3)}, map[int]uint64{7: 378, 10: 378, 3: 214})
}

// P11.3: the votes of the epoch ahead count; in the first epoch, which is ahead of itself, its own.
func TestInclusionOfEpoch(t *testing.T) {
	s := eleven()
	s.Current = votesOf(s, 6, upTo(11)...)
	expectInclusion(t, s, nil, nil)
	s = stateOf(5, 3) // the committees 1, 0, 4, and 2 3
	s.Current = []api.Pending{taken(pendingOf(0, 0, "1"), 2, 4)}
	base := uint64(2048000 / 400 / 4)
	expectInclusion(t, s, []api.Pending{pendingOf(1, 0, "1")}, map[int]uint64{1: (base - base/8) / 2, 4: base / 8})
}

// P11.3: of states drawn by lot it is what the chapter's words say.
func TestInclusionOfDrawn(t *testing.T) {
	lot := rand.New(rand.NewPCG(11, 3))
	for range 500 {
		s := drawn(lot)
		expectModel(t, "Inclusion", reward.Inclusion(s), modelInclusion(s))
	}
}
