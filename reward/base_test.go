package reward_test

import (
	"math"
	"math/rand/v2"
	"slices"
	"testing"

	"keystone/api"
	"keystone/reward"
)

func expectBase(t *testing.T, s api.State, i, want uint64) {
	t.Helper()
	if got := reward.Base(s, i); got != want {
		t.Errorf("Base of %d of %d = %d; want %d", i, len(s.Validators), got, want)
	}
}

// P11.1: answers worked out by hand.
func TestBase(t *testing.T) {
	// 2048000 / 178 is 11505; / 252: 8126; / 593: 3453; / 1011: 2025.
	for _, x := range []struct {
		n    int
		want uint64
	}{{1, 2876}, {2, 2031}, {11, 863}, {32, 506}} {
		s := stateOf(x.n, 27)
		expectBase(t, s, 0, x.want)
		expectBase(t, s, uint64(x.n-1), x.want)
	}
}

// P11.1: each by his own effective balance, be it 0, not by his balance; the total is that of all.
func TestBaseByEffective(t *testing.T) {
	s := stateOf(4, 9)
	for i, effective := range []uint64{0, 1000, 17000, 32000} { // 50000 together, of the root 223
		s.Validators[i].Effective, s.Balances[i] = effective, 7
	}
	for i, want := range []uint64{0, 71, 1219, 2295} {
		expectBase(t, s, uint64(i), want)
	}
}

// P11.1: the total is of those who are active in the state's epoch; one who isn't has a Base all the same.
func TestBaseOfActive(t *testing.T) {
	s := stateOf(4, 19)
	s.Validators[0].Exit, s.Validators[1].Active, s.Validators[2].Slashed = 4, 5, true
	for i := range uint64(4) {
		expectBase(t, s, i, 2031) // as of two
	}
	s.Slot = 20
	expectBase(t, s, 0, 2048000/309/4) // 96000: one came
	s.Slot = 15
	expectBase(t, s, 0, 2048000/309/4) // one hadn't gone yet
}

// P11.1: where nobody is active, or counts, the total is 1000.
func TestBaseOfNobody(t *testing.T) {
	s := stateOf(2, 9)
	s.Validators[0].Exit, s.Validators[1].Effective = 2, 0
	expectBase(t, s, 0, 2048000/31/4)
	expectBase(t, s, 1, 0)
}

// P11.1: of no validator it is 0.
func TestBaseOfNoValidator(t *testing.T) {
	for _, i := range []uint64{11, 12, 1 << 32, 1 << 63, math.MaxUint64} {
		expectBase(t, eleven(), i, 0)
	}
	expectBase(t, api.State{}, 0, 0)
}

func expectEligible(t *testing.T, s api.State, want ...uint64) {
	t.Helper()
	if got := reward.Eligible(s); !slices.Equal(got, want) {
		t.Errorf("slot %d: Eligible = %v; want %v", s.Slot, got, want)
	}
}

// P11.1: those who are active in the epoch ahead, be it that they are gone since; not those who came since.
func TestEligibleByActive(t *testing.T) {
	s := stateOf(6, 24) // the epoch 5 is the one ahead
	s.Validators[0].Exit, s.Validators[1].Exit = 5, 6
	s.Validators[2].Active, s.Validators[3].Active = 5, 6
	s.Validators[4].Exit, s.Validators[4].Withdraw = 5, 100 // gone, and not slashed
	expectEligible(t, s, 1, 2, 5)
	s.Slot = 23
	expectEligible(t, s, 0, 1, 4, 5)
	s.Slot = 28
	expectEligible(t, s, 2, 3, 5)
}

// P11.1: those who were slashed until they may go.
func TestEligibleBySlashed(t *testing.T) {
	s := stateOf(7, 27)
	for i, withdraw := range []uint64{4, 5, 6, 7, 8, api.FarFuture} {
		v := &s.Validators[i]
		v.Slashed, v.Exit, v.Withdraw = true, 3, withdraw
	}
	expectEligible(t, s, 3, 4, 5, 6)
	s.Validators[2].Exit = 6 // active still: it doesn't matter when he may go
	expectEligible(t, s, 2, 3, 4, 5, 6)
	s.Validators[4].Slashed = false
	expectEligible(t, s, 2, 3, 5, 6)
}

// P11.1: the first epoch is the one ahead of itself.
func TestEligibleAtFirst(t *testing.T) {
	s := stateOf(5, 0)
	s.Validators[0].Active, s.Validators[1].Exit = 1, 0
	s.Validators[2].Slashed, s.Validators[2].Exit, s.Validators[2].Withdraw = true, 0, 1
	s.Validators[3].Slashed, s.Validators[3].Exit, s.Validators[3].Withdraw = true, 0, 2
	for s.Slot = range uint64(8) {
		expectEligible(t, s, 3, 4)
	}
	s.Slot = 8
	expectEligible(t, s, 0, 4)
	expectEligible(t, api.State{Slot: 9})
}

// P11.1: how long nothing has become final, at least 0; above four epochs it is a leak.
func TestDelayAndLeaking(t *testing.T) {
	tests := []struct {
		slot, final, delay uint64
		leaking            bool
	}{
		{0, 0, 0, false}, {3, 0, 0, false}, {7, 0, 0, false}, {8, 0, 1, false}, {11, 0, 1, false},
		{20, 0, 4, false}, {23, 0, 4, false}, {24, 0, 5, true}, {27, 0, 5, true}, {27, 1, 4, false}, {28, 1, 5, true},
		{27, 5, 0, false}, {27, 6, 0, false}, {3, 7, 0, false}, {27, 1 << 32, 0, false}, {27, math.MaxUint64, 0, false},
		{1 << 32, 0, 1<<30 - 1, true}, {1 << 32, 1<<30 - 5, 4, false}, {1 << 32, 1<<30 - 6, 5, true},
		{math.MaxUint64, 0, 1<<62 - 2, true},
	}
	for _, x := range tests {
		s := stateOf(1, x.slot)
		s.Finalized = api.Checkpoint{Epoch: x.final, Root: rootOf(7)}
		s.CurrentJust.Epoch, s.PreviousJust.Epoch = 5, 5 // what is justified doesn't count
		if got := reward.Delay(s); got != x.delay {
			t.Errorf("slot %d, final %d: Delay = %d; want %d", x.slot, x.final, got, x.delay)
		}
		if got := reward.Leaking(s); got != x.leaking {
			t.Errorf("slot %d, final %d: Leaking = %v", x.slot, x.final, got)
		}
	}
}

// P11.1: of states drawn by lot they are what the chapter's words say.
func TestBaseOfDrawn(t *testing.T) {
	lot := rand.New(rand.NewPCG(11, 1))
	for range 500 {
		s := drawn(lot)
		var eligible []uint64
		for i := range s.Validators {
			expectBase(t, s, uint64(i), uint64(modelBase(s, i)))
			if modelEligible(s, i) {
				eligible = append(eligible, uint64(i))
			}
		}
		expectEligible(t, s, eligible...)
		if got := reward.Delay(s); got != uint64(modelDelay(s)) || reward.Leaking(s) != (got > 4) {
			t.Errorf("slot %d, final %d: Delay = %d, Leaking = %v", s.Slot, s.Finalized.Epoch, got, reward.Leaking(s))
		}
	}
}
