package registry_test

import (
	"math/rand/v2"
	"testing"

	"keystone/api"
	"keystone/registry"
)

// halfway is a state of eleven, of 352000 together, in the epoch 6, in which one was slashed and is halfway.
func halfway(fines [8]uint64) api.State {
	s := stateOf(11, 27)
	s.Fines = fines
	s.Validators[3].Slashed, s.Validators[3].Withdraw = true, 10
	return s
}

// expectFine: what is left of some balances; all else stays.
func expectFine(t *testing.T, s api.State, left map[int]uint64) {
	t.Helper()
	expectState(t, "Fine", registry.Fine(s), behind(s, func(u *api.State) {
		for i, balance := range left {
			u.Balances[i] = balance
		}
	}))
}

// P12.4: twice the share that all fines have of the total, in whole increments; at most all.
func TestFine(t *testing.T) {
	for sum, loses := range map[uint64]uint64{
		0: 0, 1: 0, 5499: 0, 5500: 1000, 10999: 1000, 11000: 2000, // 32 * 11000 / 352000 is 1
		32000: 5000, 64000: 11000, 100000: 18000, 170499: 30000, 170500: 31000, 175999: 31000, 176000: 32000, 176001: 32000, 352000: 32000, 1 << 40: 32000,
	} {
		expectFine(t, halfway([8]uint64{sum}), map[int]uint64{3: 32000 - loses})
	}
}

// P12.4: each of the eight fines counts.
func TestFineOfAll(t *testing.T) {
	for i := range 8 {
		var fines [8]uint64
		fines[i] = 32000
		expectFine(t, halfway(fines), map[int]uint64{3: 27000})
	}
	expectFine(t, halfway([8]uint64{1000, 2000, 4000, 8000, 16000, 32000, 64000, 1000}), map[int]uint64{3: 9000}) // 128000: 23
	expectFine(t, halfway([8]uint64{1 << 40, 1 << 40, 1 << 40, 1 << 40, 1 << 40, 1 << 40, 1 << 40, 1 << 40}), map[int]uint64{3: 0})
}

// P12.4: by his effective balance, whatever his balance, which falls to 0 at least.
func TestFineByEffective(t *testing.T) {
	for effective, loses := range map[uint64]uint64{0: 0, 1000: 0, 5000: 0, 6000: 1000, 10000: 1000, 11000: 2000, 16000: 2000, 17000: 3000, 31000: 5000} {
		s := stateOf(12, 27)
		s.Fines[0] = 32000
		s.Validators[3].Slashed, s.Validators[3].Withdraw = true, 10
		s.Validators[3].Effective, s.Validators[4].Effective = effective, 32000-effective // 352000 together again
		for _, balance := range []uint64{5000, 20000, 1 << 40} {
			s.Balances[3] = balance
			expectFine(t, s, map[int]uint64{3: balance - loses})
		}
	}
	for balance, left := range map[uint64]uint64{0: 0, 4999: 0, 5000: 0, 5001: 1} {
		s := halfway([8]uint64{32000})
		s.Balances[3] = balance
		expectFine(t, s, map[int]uint64{3: left})
	}
}

// P12.4: who was slashed pays in one epoch alone, active or gone; who wasn't never.
func TestFineOnce(t *testing.T) {
	s := halfway([8]uint64{64000})
	for _, withdraw := range []uint64{0, 2, 6, 8, 9, 11, 12, 14, 1 << 32, api.FarFuture} {
		s.Validators[3].Withdraw = withdraw
		expectFine(t, s, nil)
	}
	s.Validators[3].Withdraw = 10
	for slot := range uint64(50) {
		s.Slot = slot
		left := map[int]uint64{3: 21000}
		if slot/4 != 6 {
			left = nil
		}
		expectFine(t, s, left)
	}
	s.Slot, s.Validators[3].Slashed, s.Validators[3].Exit = 27, false, 11
	expectFine(t, s, nil)
}

// P12.4: all who are halfway pay, of one total of those who are active now.
func TestFineOfMany(t *testing.T) {
	s := halfway([8]uint64{64000})
	for _, i := range []int{0, 7, 10} {
		s.Validators[i] = leaving(s.Validators[i], 6, 10) // gone: 256000 are left
		s.Validators[i].Slashed = i != 7
	}
	s.Validators[8].Slashed = true
	expectFine(t, s, map[int]uint64{0: 16000, 3: 16000, 10: 16000})
	s.Slot, s.Validators[3].Withdraw = 23, 9
	expectFine(t, s, map[int]uint64{3: 21000}) // they weren't gone yet
	s.Slot, s.Validators[7].Active, s.Validators[7].Exit = 27, 7, 9
	s.Validators[3].Withdraw = 10
	expectFine(t, s, map[int]uint64{0: 16000, 3: 16000, 10: 16000}) // not come yet
}

// P12.4: where nobody is active the total is 1000.
func TestFineOfNobody(t *testing.T) {
	for sum, loses := range map[uint64]uint64{0: 0, 15: 0, 16: 1000, 250: 16000, 499: 31000, 500: 32000, 32000: 32000} {
		s := halfway([8]uint64{sum})
		for i := range s.Validators {
			s.Validators[i].Exit = 6
		}
		expectFine(t, s, map[int]uint64{3: 32000 - loses})
	}
}

// P12.4: who is slashed as he leaves is fined once, halfway to when he may withdraw.
func TestFineBehindSlash(t *testing.T) {
	s := stateOf(11, 27)
	s.Validators[3] = leaving(s.Validators[3], 7, 9)
	s = registry.Slash(s, 3, 0, 1)
	for epoch := uint64(6); epoch < 20; epoch++ {
		s.Slot = 4*epoch + 3
		var left map[int]uint64
		if epoch == 10 {
			left = map[int]uint64{3: 31500 - 6000} // ten are active: 32 * 64000 / 320000 is 6.4
		}
		expectFine(t, s, left)
	}
}

// P12.4: of states drawn by lot it is what the chapter's words say.
func TestFineOfDrawn(t *testing.T) {
	lot := rand.New(rand.NewPCG(12, 4))
	paid := 0
	for range 3000 {
		s := drawn(lot)
		u := registry.Fine(s)
		expectState(t, "drawn", u, behind(s, modelFine))
		for i := range u.Balances {
			if u.Balances[i] != s.Balances[i] {
				paid++
			}
		}
	}
	if paid < 1000 {
		t.Errorf("in 3000 states %d were fined", paid)
	}
}
