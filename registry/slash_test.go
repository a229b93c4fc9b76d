package registry_test

import (
	"math"
	"math/rand/v2"
	"testing"

	"keystone/api"
	"keystone/registry"
)

// slashed is a state of stateOf in the epoch 6 in which a validator was slashed: all but the balances.
func slashed(s api.State, i int, balances map[int]uint64) api.State {
	return behind(s, func(u *api.State) {
		v := &u.Validators[i]
		*v = leaving(*v, 11, 19)
		v.Slashed = true
		u.Fines[6] += v.Effective
		for place, balance := range balances {
			u.Balances[place] = balance
		}
	})
}

// P12.2: of 32000 he loses 500; of 62 the proposer gets 7, who told 55.
func TestSlash(t *testing.T) {
	s := stateOf(5, 27)
	expectState(t, "Slash", registry.Slash(s, 3, 1, 4), slashed(s, 3, map[int]uint64{3: 31500, 1: 32007, 4: 32055}))
	expectState(t, "Slash", registry.Slash(s, 0, 4, 1), slashed(s, 0, map[int]uint64{0: 31500, 4: 32007, 1: 32055}))
}

// P12.2: one may have told and propose, or be slashed and get something for it.
func TestSlashOfFew(t *testing.T) {
	s := stateOf(5, 27)
	expectState(t, "proposer tells", registry.Slash(s, 3, 1, 1), slashed(s, 3, map[int]uint64{3: 31500, 1: 32062}))
	expectState(t, "proposer slashed", registry.Slash(s, 3, 3, 1), slashed(s, 3, map[int]uint64{3: 31507, 1: 32055}))
	expectState(t, "teller slashed", registry.Slash(s, 3, 1, 3), slashed(s, 3, map[int]uint64{3: 31555, 1: 32007}))
	expectState(t, "one for all", registry.Slash(s, 3, 3, 3), slashed(s, 3, map[int]uint64{3: 31562}))
}

// P12.2: all goes by his effective balance, not by his balance, nor by those of others.
func TestSlashByEffective(t *testing.T) {
	s := stateOf(5, 27)
	s.Validators[1].Effective, s.Validators[4].Effective = 1000, 2000
	for _, x := range []struct{ effective, loses, proposer, teller uint64 }{
		{0, 0, 0, 0}, {1000, 15, 0, 1}, {4000, 62, 0, 7}, {5000, 78, 1, 8}, {8000, 125, 1, 14}, {9000, 140, 2, 15}, {16000, 250, 3, 28}, {31000, 484, 7, 53},
	} {
		for _, balance := range []uint64{600, 20000, 32000, 1 << 40} {
			s.Validators[3].Effective, s.Balances[3], s.Balances[1], s.Balances[4] = x.effective, balance, 10, 20
			want := slashed(s, 3, map[int]uint64{3: balance - x.loses, 1: 10 + x.proposer, 4: 20 + x.teller})
			expectState(t, "Slash", registry.Slash(s, 3, 1, 4), want)
		}
	}
}

// P12.2: his balance falls to 0 at least, ahead of what he gets.
func TestSlashAtLeastNothing(t *testing.T) {
	s := stateOf(5, 27)
	for balance, left := range map[uint64]uint64{0: 0, 1: 0, 499: 0, 500: 0, 501: 1} {
		s.Balances[3], s.Balances[1], s.Balances[4] = balance, 0, 0
		expectState(t, "Slash", registry.Slash(s, 3, 1, 4), slashed(s, 3, map[int]uint64{3: left, 1: 7, 4: 55}))
		expectState(t, "for himself", registry.Slash(s, 3, 3, 3), slashed(s, 3, map[int]uint64{3: left + 62}))
	}
}

// P12.2: in each epoch one of the eight fines grows; the others stay.
func TestSlashFines(t *testing.T) {
	for epoch := range uint64(20) {
		s := stateOf(5, 4*epoch+3)
		for i := range s.Fines {
			s.Fines[i] = uint64(100 * i)
		}
		s.Validators[3].Effective = 17000
		want := s.Fines
		want[epoch%8] += 17000
		u := registry.Slash(s, 3, 1, 4)
		if u.Fines != want {
			t.Errorf("epoch %d: Fines = %v; want %v", epoch, u.Fines, want)
		}
		want[epoch%8] += 32000
		if u = registry.Slash(u, 0, 1, 4); u.Fines != want {
			t.Errorf("epoch %d, a second one: Fines = %v; want %v", epoch, u.Fines, want)
		}
	}
}

// P12.2: he may not withdraw ahead of eight epochs on; where it is later already it stays so.
func TestSlashWithdraw(t *testing.T) {
	s := stateOf(5, 27)
	for _, exit := range []uint64{0, 6, 7, 12, 1 << 32} { // set already: it stays
		for withdraw, want := range map[uint64]uint64{
			0: 14, 6: 14, 10: 14, 13: 14, 14: 14, 15: 15, 100: 100, 1 << 32: 1 << 32, api.FarFuture: api.FarFuture,
		} {
			s.Validators[3] = leaving(s.Validators[3], exit, withdraw)
			got := registry.Slash(s, 3, 1, 4).Validators[3]
			if got.Exit != exit || got.Withdraw != want || !got.Slashed {
				t.Errorf("Exit %d, Withdraw %d: %+v", exit, withdraw, got)
			}
		}
	}
	s.Validators[3] = leaving(s.Validators[3], api.FarFuture, 100) // it is set anew as he leaves
	if got := registry.Slash(s, 3, 1, 4).Validators[3]; got.Exit != 11 || got.Withdraw != 19 {
		t.Errorf("leaves: %+v", got)
	}
}

// P12.2: he leaves as any: behind those who leave already, as many in an epoch as may.
func TestSlashLeaves(t *testing.T) {
	u := stateOf(5, 27)
	for i, exit := range []uint64{11, 11, 12, 12, 13} {
		u = registry.Slash(u, uint64(i), 0, 1)
		if got := u.Validators[i]; got.Exit != exit || got.Withdraw != exit+8 {
			t.Errorf("%d: %+v", i, got)
		}
	}
}

// P12.2: one who was slashed already, or isn't active, is slashed all the same: whether he may be is another layer's to say.
func TestSlashAgain(t *testing.T) {
	s := stateOf(5, 27)
	s.Validators[3] = waiting(s.Validators[3], 9)
	u := registry.Slash(s, 3, 1, 4)
	expectState(t, "waits", u, slashed(s, 3, map[int]uint64{3: 31500, 1: 32007, 4: 32055}))
	expectState(t, "again", registry.Slash(u, 3, 1, 4), slashed(u, 3, map[int]uint64{3: 31000, 1: 32014, 4: 32110}))
}

// P12.2: where one of the three is no validator nothing changes; not even if it is who told.
func TestSlashNoValidator(t *testing.T) {
	s := stateOf(5, 27)
	for _, i := range []uint64{5, 6, 1 << 32, 1<<32 + 1, 1 << 63, math.MaxUint64} {
		for _, x := range [][3]uint64{{i, 1, 4}, {3, i, 4}, {3, 1, i}, {i, i, 4}, {3, i, i}, {i, 1, i}, {i, i, i}} {
			expectState(t, "no validator", registry.Slash(s, x[0], x[1], x[2]), same(s))
		}
	}
	expectState(t, "no validators", registry.Slash(api.State{Slot: 27}, 0, 0, 0), api.State{Slot: 27})
}

// P12.2: of states drawn by lot it is what the chapter's words say.
func TestSlashOfDrawn(t *testing.T) {
	lot := rand.New(rand.NewPCG(12, 2))
	for range 2000 {
		u := drawn(lot)
		for range 4 {
			n := len(u.Validators)
			i, proposer, teller := lot.IntN(n), lot.IntN(n), lot.IntN(n)
			want := behind(u, func(u *api.State) { modelSlash(u, i, proposer, teller) })
			u = registry.Slash(u, uint64(i), uint64(proposer), uint64(teller))
			expectState(t, "Slash", u, want)
		}
	}
}
