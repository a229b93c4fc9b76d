package just_test

import (
	"math"
	"math/rand/v2"
	"slices"
	"testing"

	"keystone/api"
	"keystone/just"
)

func expectVoters(t *testing.T, s api.State, l []api.Pending, want ...uint64) {
	t.Helper()
	if got := just.Voters(s, l); !slices.Equal(got, want) {
		t.Errorf("Voters = %v; want %v", got, want)
	}
}

// P10.2: members whose bit is set. The epoch 5 of 11 validators has the committees 1 6, 10 8 7, 0 9 5, and 2 3 4.
func TestVotersByHand(t *testing.T) {
	s := stateOf(11, 23)
	expectVoters(t, s, nil)
	expectVoters(t, s, []api.Pending{pendingOf(20, 0, "00")})
	expectVoters(t, s, []api.Pending{pendingOf(20, 0, "01")}, 6)
	expectVoters(t, s, []api.Pending{pendingOf(21, 0, "111")}, 7, 8, 10)
	expectVoters(t, s, []api.Pending{pendingOf(21, 0, "101"), pendingOf(22, 0, "011"), pendingOf(20, 0, "10")}, 1, 5, 7, 9, 10)
	expectVoters(t, s, []api.Pending{pendingOf(23, 0, "110"), pendingOf(20, 0, "11"), pendingOf(22, 0, "111"), pendingOf(21, 0, "110")}, 0, 1, 2, 3, 5, 6, 8, 9, 10)
}

// P10.2: each stands there once, in however many votes.
func TestVotersOnce(t *testing.T) {
	s := stateOf(11, 23)
	l := []api.Pending{pendingOf(21, 0, "110"), pendingOf(21, 0, "011"), pendingOf(21, 0, "110")}
	expectVoters(t, s, l, 7, 8, 10)
	expectVoters(t, s, slices.Repeat(l, 50), 7, 8, 10)
}

// P10.2: of two committees in a slot each has its own members.
func TestVotersByIndex(t *testing.T) {
	s := stateOf(16, 11) // the slot 8: 15 0, and 13 3; the slot 10: 1 8, and 11 5
	expectVoters(t, s, []api.Pending{pendingOf(8, 0, "10")}, 15)
	expectVoters(t, s, []api.Pending{pendingOf(8, 1, "10")}, 13)
	expectVoters(t, s, []api.Pending{pendingOf(8, 1, "01"), pendingOf(10, 0, "11"), pendingOf(10, 1, "10")}, 1, 3, 8, 11)
}

// P10.2: votes of many epochs, each with its epoch's committees, in any order.
func TestVotersOfManyEpochs(t *testing.T) {
	s := stateOf(5, 7) // the epoch 0: 1, 0, 4, and 2 3
	expectVoters(t, s, []api.Pending{pendingOf(0, 0, "1"), pendingOf(3, 0, "01")}, 1, 3)
	s = stateOf(19, 40)
	at := uint64(4294967292) // 12 10, 15 9; 6 13 1, 7 18; 11 4, 2 5 0; 16 17, 14 3 8
	expectVoters(t, s, []api.Pending{pendingOf(at, 0, "10"), pendingOf(at+3, 1, "001")}, 8, 12)
	var l []api.Pending
	for _, slot := range []uint64{37, 3, 36, 38, 0, at, 35, 39, 2, at + 1, 1 << 60, math.MaxUint64} {
		l = append(l, pendingOf(slot, slot%2, "0100"), pendingOf(slot, 0, "1"))
	}
	expectVoters(t, s, l, modelVoters(s, l)...)
}

// P10.2: nobody who was slashed, be it that he voted ahead of it.
func TestVotersNotSlashed(t *testing.T) {
	s := stateOf(11, 23)
	s.Validators[8].Slashed, s.Validators[1].Slashed, s.Validators[2].Slashed = true, true, true
	expectVoters(t, s, []api.Pending{pendingOf(21, 0, "111"), pendingOf(20, 0, "10")}, 7, 10)
}

// P10.2: none of a vote without a committee; the other votes count.
func TestVotersWithoutCommittee(t *testing.T) {
	s := stateOf(11, 23)
	for _, index := range []uint64{1, 2, 1 << 62, math.MaxUint64} {
		expectVoters(t, s, []api.Pending{pendingOf(21, index, "111")})
		expectVoters(t, s, []api.Pending{pendingOf(21, index, "111"), pendingOf(20, 0, "11"), pendingOf(22, index, "111")}, 1, 6)
	}
	nobody := stateOf(0, 23)
	expectVoters(t, nobody, []api.Pending{pendingOf(21, 0, "111"), pendingOf(21, 1, "111")})
}

// P10.2: a member has no bit set where there is none; a bit of no member counts for nobody.
func TestVotersOfOtherBits(t *testing.T) {
	s := stateOf(11, 23)
	expectVoters(t, s, []api.Pending{pendingOf(21, 0, "")})
	expectVoters(t, s, []api.Pending{pendingOf(21, 0, "11")}, 8, 10)
	expectVoters(t, s, []api.Pending{pendingOf(21, 0, "01111111")}, 7, 8)
}

// P10.2: nothing of a vote counts but slot, index and bits.
func TestVotersHangOn(t *testing.T) {
	s := stateOf(11, 23)
	p := pendingOf(21, 0, "101")
	p.Data.Block, p.Data.Source, p.Data.Target, p.Delay, p.Proposer = rootOf(99), check(88), check(77), 66, 55
	expectVoters(t, s, []api.Pending{p}, 7, 10)
}

func expectEnough(t *testing.T, s api.State, want bool, some ...uint64) {
	t.Helper()
	if got := just.Enough(s, some); got != want {
		t.Errorf("Enough(%v) = %v", some, got)
	}
}

// P10.2: two thirds are enough, and no less.
func TestEnough(t *testing.T) {
	s := stateOf(6, 9)
	expectEnough(t, s, false)
	expectEnough(t, s, false, 0, 1, 2)
	expectEnough(t, s, true, 5, 0, 2, 1) // two thirds exactly
	expectEnough(t, s, true, upTo(6)...)
	s.Validators[1].Effective = 31000 // 127000 of 191000 are less than two thirds
	expectEnough(t, s, false, 5, 0, 2, 1)
	expectEnough(t, s, true, 5, 0, 2, 3)
	s = stateOf(3, 9)
	s.Validators[0].Effective, s.Validators[1].Effective, s.Validators[2].Effective = 1000, 15000, 8000
	expectEnough(t, s, true, 0, 1) // 16000 of 24000
	s.Validators[2].Effective = 9000
	expectEnough(t, s, false, 0, 1)
	expectEnough(t, s, true, 1, 2)
}

// P10.2: it is held against those who are active in the state's epoch; whose votes they are doesn't matter.
func TestEnoughOfActive(t *testing.T) {
	s := stateOf(6, 19)
	s.Validators[0].Exit, s.Validators[1].Active = 4, 5
	expectEnough(t, s, false, 2, 3)
	expectEnough(t, s, true, 2, 3, 4)
	expectEnough(t, s, true, 0, 1, 5) // 96000, though two of them aren't active
	s.Validators[0].Exit, s.Validators[1].Active = 5, 4
	expectEnough(t, s, false, 2, 3, 4)
	expectEnough(t, s, true, 2, 3, 4, 5)
	s.Slot = 20
	expectEnough(t, s, false, 2, 3, 4) // five in the next epoch
	expectEnough(t, s, true, 1, 2, 3, 4)
}

// P10.2: as Total says, each counts as often as it stands there, no validator counts nothing, and nobody counts 1000.
func TestEnoughByTotal(t *testing.T) {
	s := stateOf(3, 9)
	expectEnough(t, s, true, 2, 2)
	expectEnough(t, s, false, 2, 3, 4, math.MaxUint64)
	expectEnough(t, stateOf(0, 9), true)
	expectEnough(t, stateOf(0, 9), true, 0)
	s = stateOf(1, 9)
	s.Validators[0].Effective = 1000
	expectEnough(t, s, true) // nobody's 1000 of 1000
	s.Validators[0].Effective = 2000
	expectEnough(t, s, false)
}

// P10.2: slashed ones count among all active ones, and where they are handed in.
func TestEnoughOfSlashed(t *testing.T) {
	s := stateOf(3, 9)
	s.Validators[0].Slashed = true
	expectEnough(t, s, false, 1)
	expectEnough(t, s, true, 0, 1)
}

// P10.2: of states drawn by lot both are what the chapter's words say.
func TestVotersOfDrawn(t *testing.T) {
	lot := rand.New(rand.NewPCG(10, 2))
	enough := 0
	for range 500 {
		s := drawn(lot)
		for _, l := range [][]api.Pending{s.Current, s.Previous, slices.Concat(s.Current, s.Previous)} {
			voters := modelVoters(s, l)
			expectVoters(t, s, l, voters...)
			expectEnough(t, s, modelEnough(s, voters), voters...)
			if modelEnough(s, voters) {
				enough++
			}
		}
	}
	if enough < 100 || enough > 1400 {
		t.Errorf("enough of 1500: %d", enough)
	}
}
