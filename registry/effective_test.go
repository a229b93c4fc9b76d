package registry_test

import (
	"math/rand/v2"
	"testing"

	"keystone/api"
	"keystone/registry"
)

// expectEffective: of one validator, between others whose effective balances stay.
func expectEffective(t *testing.T, effective, balance, want uint64) {
	t.Helper()
	s := stateOf(3, 27)
	s.Validators[1].Effective, s.Balances[1] = effective, balance
	s.Validators[2].Effective, s.Balances[2] = 5000, 5999
	expectState(t, "Effective", registry.Effective(s), behind(s, func(u *api.State) { u.Validators[1].Effective = want }))
}

// P12.5: a balance that is more than 250 below the effective one counts anew, without its rest.
func TestEffectiveBelow(t *testing.T) {
	expectEffective(t, 32000, 31750, 32000)
	expectEffective(t, 32000, 31749, 31000)
	expectEffective(t, 32000, 31000, 31000)
	expectEffective(t, 32000, 30999, 30000)
	expectEffective(t, 32000, 999, 0)
	expectEffective(t, 32000, 0, 0)
	expectEffective(t, 17000, 16750, 17000)
	expectEffective(t, 17000, 16749, 16000)
	expectEffective(t, 1000, 750, 1000)
	expectEffective(t, 1000, 749, 0)
	expectEffective(t, 1000, 0, 0)
}

// P12.5: one that is more than 1250 above it does so too, up to 32000.
func TestEffectiveAbove(t *testing.T) {
	expectEffective(t, 0, 1250, 0)
	expectEffective(t, 0, 1251, 1000)
	expectEffective(t, 0, 1999, 1000)
	expectEffective(t, 0, 2000, 2000)
	expectEffective(t, 16000, 17250, 16000)
	expectEffective(t, 16000, 17251, 17000)
	expectEffective(t, 30000, 31250, 30000)
	expectEffective(t, 30000, 31251, 31000)
	expectEffective(t, 31000, 32250, 31000)
	expectEffective(t, 31000, 32251, 32000)
	expectEffective(t, 31000, 33000, 32000)
	for _, balance := range []uint64{33250, 33251, 34000, 1 << 32, 1 << 40} {
		expectEffective(t, 32000, balance, 32000)
		expectEffective(t, 1000, balance, 32000)
	}
}

// P12.5: what is between stays.
func TestEffectiveStays(t *testing.T) {
	for effective := uint64(0); effective <= 32000; effective += 1000 {
		for balance := effective - min(effective, 250); balance <= effective+1250; balance += 50 {
			expectEffective(t, effective, balance, effective)
		}
	}
}

// P12.5: each counts anew, be he slashed, gone or not come yet, and whatever the others' balances.
func TestEffectiveOfAll(t *testing.T) {
	s := stateOf(5, 27)
	s.Validators[0].Slashed = true
	s.Validators[1] = leaving(s.Validators[1], 3, 4)
	s.Validators[2] = waiting(s.Validators[2], api.FarFuture)
	for i, balance := range []uint64{31000, 30000, 29000, 28000, 27000} {
		s.Balances[i] = balance
	}
	expectState(t, "all", registry.Effective(s), behind(s, func(u *api.State) {
		for i, balance := range s.Balances {
			u.Validators[i].Effective = balance
		}
	}))
}

// P12.5: of states drawn by lot it is what the chapter's words say.
func TestEffectiveOfDrawn(t *testing.T) {
	lot := rand.New(rand.NewPCG(12, 5))
	for range 3000 {
		s := drawn(lot)
		expectState(t, "drawn", registry.Effective(s), behind(s, modelEffective))
	}
}
