package registry_test

import (
	"math"
	"math/rand/v2"
	"testing"

	"keystone/api"
	"keystone/registry"
)

// P12.1: an eighth of the active ones, rounded down, two at least.
func TestChurn(t *testing.T) {
	for n := range 33 {
		want := uint64(2)
		if n >= 24 {
			want = 3
		}
		if n == 32 {
			want = 4
		}
		if got := registry.Churn(stateOf(n, 9)); got != want {
			t.Errorf("Churn of %d = %d; want %d", n, got, want)
		}
	}
}

// P12.1: those count who are active in the state's epoch, slashed and of any balance.
func TestChurnOfActive(t *testing.T) {
	s := stateOf(24, 19) // the epoch 4
	expect := func(want uint64) {
		t.Helper()
		if got := registry.Churn(s); got != want {
			t.Errorf("slot %d: Churn = %d; want %d", s.Slot, got, want)
		}
	}
	s.Validators[0].Slashed, s.Validators[1].Effective, s.Balances[2] = true, 0, 0
	expect(3)
	s.Validators[3].Exit = 4
	expect(2)
	s.Slot = 15
	expect(3)
	s.Slot, s.Validators[3].Exit, s.Validators[4].Active = 19, 5, 5
	expect(2)
	s.Slot = 20
	expect(2)
	s.Validators[3].Exit = 6
	expect(3)
}

// P12.1: five epochs on; as all numbers do that aren't a valid state's, it begins again at 0 behind the greatest.
func TestSoon(t *testing.T) {
	for epoch, want := range map[uint64]uint64{
		0: 5, 1: 6, 3: 8, 1 << 30: 1<<30 + 5, 1 << 32: 1<<32 + 5, math.MaxUint64 - 5: math.MaxUint64, math.MaxUint64 - 4: 0, math.MaxUint64: 4,
	} {
		if got := registry.Soon(epoch); got != want {
			t.Errorf("Soon(%d) = %d; want %d", epoch, got, want)
		}
	}
}

// expectLeave: the exit that is set, and eight epochs behind it the withdraw; all else stays.
func expectLeave(t *testing.T, s api.State, i int, exit uint64) api.State {
	t.Helper()
	got := registry.Leave(s, uint64(i))
	expectState(t, "Leave", got, behind(s, func(u *api.State) {
		u.Validators[i] = leaving(u.Validators[i], exit, exit+8)
	}))
	return got
}

// P12.1: the first ones leave five epochs on, as many as may in one epoch; the next ones in the next.
func TestLeaveOneByOne(t *testing.T) {
	for _, x := range []struct{ n, churn int }{{1, 2}, {7, 2}, {23, 2}, {24, 3}, {31, 3}, {32, 4}} {
		for _, slot := range []uint64{0, 3, 9, 27, 1 << 32} {
			u := stateOf(x.n, slot)
			for k := range x.n {
				u = expectLeave(t, u, (5*k+3)%x.n, slot/4+5+uint64(k/x.churn))
			}
		}
	}
}

// P12.1: nobody leaves ahead of one whose exit is set to a later epoch, though there is room.
func TestLeaveBehindOthers(t *testing.T) {
	s := stateOf(8, 27) // the epoch 6: soon is 11
	for exit := uint64(0); exit <= 11; exit++ {
		s.Validators[7] = leaving(s.Validators[7], exit, 30)
		expectLeave(t, s, 2, 11)
	}
	for _, exit := range []uint64{12, 13, 20, 1 << 32} {
		s.Validators[7] = leaving(s.Validators[7], exit, 30)
		u := expectLeave(t, s, 2, exit)
		expectLeave(t, u, 3, exit+1)
	}
}

// P12.1: only those count who leave in the last epoch of all, not those who leave ahead of it, wherever they stand.
func TestLeaveCounts(t *testing.T) {
	s := stateOf(12, 27)
	exits := func(l ...uint64) {
		for i := range s.Validators {
			s.Validators[i].Exit = api.FarFuture
		}
		for i, exit := range l {
			s.Validators[(5*i+4)%12].Exit = exit // 4 9 2 7 0 5: never 3
		}
	}
	for _, x := range []struct {
		exits []uint64
		want  uint64
	}{
		{[]uint64{11}, 11}, {[]uint64{11, 11}, 12}, {[]uint64{11, 11, 11, 11}, 12}, // more than may
		{[]uint64{10, 10, 10}, 11}, {[]uint64{11, 11, 11, 12}, 12}, {[]uint64{12, 11, 11, 11, 12}, 13},
		{[]uint64{6, 6, 7, 7, 11, 3}, 11}, {[]uint64{14, 14, 11, 11}, 15}, {[]uint64{0, 0, 0}, 11},
	} {
		exits(x.exits...)
		expectLeave(t, s, 3, x.want)
	}
}

// P12.1: how many may is counted by who is active now; who leaves counts also if he isn't active, or was slashed.
func TestLeaveByChurn(t *testing.T) {
	s := stateOf(24, 27)
	for i := range 2 {
		s.Validators[i] = leaving(s.Validators[i], 11, 19)
		s.Validators[i].Slashed = i == 0
	}
	expectLeave(t, s, 9, 11)
	s.Validators[23].Active = 7
	expectLeave(t, s, 9, 12)
	s.Validators[23].Active, s.Validators[1].Active = 0, 7 // 23 are active, and the exit of one who isn't counts
	expectLeave(t, s, 9, 12)
}

// P12.1: one leaves who waits, or was slashed, as any; what was his withdraw is no matter.
func TestLeaveOfAny(t *testing.T) {
	s := stateOf(5, 27)
	s.Validators[0] = waiting(s.Validators[0], 3)
	s.Validators[1].Slashed, s.Validators[1].Withdraw = true, 100
	s.Validators[2].Effective, s.Validators[2].Withdraw = 0, 2
	for i := range 3 {
		expectLeave(t, s, i, 11)
	}
}

// P12.1: where an exit is set, or there is no such validator, nothing changes.
func TestLeaveNot(t *testing.T) {
	s := stateOf(5, 27)
	for _, exit := range []uint64{0, 6, 7, 11, 12, 1 << 32, math.MaxUint64 - 1} {
		for _, withdraw := range []uint64{0, 15, api.FarFuture} {
			s.Validators[3] = leaving(s.Validators[3], exit, withdraw)
			expectState(t, "set already", registry.Leave(s, 3), same(s))
		}
	}
	for _, i := range []uint64{5, 6, 1 << 32, 1<<32 + 1, 1 << 63, math.MaxUint64} {
		expectState(t, "no validator", registry.Leave(s, i), same(s))
	}
	expectState(t, "no validators", registry.Leave(api.State{Slot: 27}, 0), api.State{Slot: 27})
}

// P12.1: of states drawn by lot all is what the chapter's words say.
func TestLeaveOfDrawn(t *testing.T) {
	lot := rand.New(rand.NewPCG(12, 1))
	for range 2000 {
		s := drawn(lot)
		if got := registry.Churn(s); got != uint64(modelChurn(&s)) {
			t.Errorf("Churn = %d; want %d", got, modelChurn(&s))
		}
		u := s
		for range 6 {
			i := lot.IntN(len(s.Validators))
			want := behind(u, func(u *api.State) { modelLeave(u, i) })
			u = registry.Leave(u, uint64(i))
			expectState(t, "Leave", u, want)
		}
	}
}
