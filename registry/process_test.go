package registry_test

import (
	"math/rand/v2"
	"testing"

	"keystone/api"
	"keystone/registry"
)

func expectProcess(t *testing.T, what string, s api.State, change func(u *api.State)) {
	t.Helper()
	expectState(t, what, registry.Process(s), behind(s, change))
}

func nothing(*api.State) {}

// P12.3: where all are active and have what they need nothing changes.
func TestProcessNothing(t *testing.T) {
	for slot := range uint64(30) {
		s := stateOf(11, slot)
		s.Finalized.Epoch = slot / 4
		expectProcess(t, "nothing", s, nothing)
	}
}

// P12.3: who has the full effective balance becomes eligible in the next epoch, if he isn't yet.
func TestProcessEligible(t *testing.T) {
	s := stateOf(6, 27)
	for i, effective := range []uint64{32000, 31000, 17000, 32000, 32000, 0} {
		s.Validators[i] = waiting(s.Validators[i], api.FarFuture)
		s.Validators[i].Effective = effective
	}
	s.Validators[3].Eligible, s.Balances[0], s.Balances[1] = 9, 0, 1<<40 // by effective balances, not by balances
	s.Validators[4].Slashed, s.Validators[4].Active = true, 3            // active already: no matter
	s.Finalized.Epoch = 6
	expectProcess(t, "eligible", s, func(u *api.State) {
		u.Validators[0].Eligible, u.Validators[4].Eligible = 7, 7
	})
	s.Slot, s.Finalized.Epoch = 0, 0
	expectProcess(t, "at first", s, func(u *api.State) {
		u.Validators[0].Eligible, u.Validators[4].Eligible = 1, 1
	})
}

// P12.3: who is active with half of the full effective balance, or less, leaves; by places, as many in an epoch as may.
func TestProcessEjected(t *testing.T) {
	s := stateOf(9, 27)
	for i, effective := range []uint64{32000, 16000, 17000, 0, 1000, 16000, 15000, 31000, 32000} {
		s.Validators[i].Effective = effective
	}
	s.Balances[0], s.Balances[1] = 0, 1<<40 // by effective balances, not by balances
	expectProcess(t, "ejected", s, func(u *api.State) {
		for i, exit := range map[int]uint64{1: 11, 3: 11, 4: 12, 5: 12, 6: 13} {
			u.Validators[i] = leaving(u.Validators[i], exit, exit+8)
		}
	})
	s.Validators[8] = leaving(s.Validators[8], 14, 22) // the last one: they leave with him, and behind him
	expectProcess(t, "ejected behind others", s, func(u *api.State) {
		for i, exit := range map[int]uint64{1: 14, 3: 15, 4: 15, 5: 16, 6: 16} {
			u.Validators[i] = leaving(u.Validators[i], exit, exit+8)
		}
	})
}

// P12.3: not who isn't active in the state's epoch, or leaves already.
func TestProcessNotEjected(t *testing.T) {
	s := stateOf(8, 27)
	for i := range s.Validators {
		s.Validators[i].Effective = 16000
	}
	s.Validators[0].Exit = 6
	s.Validators[1].Exit = 7 // active, but he leaves
	s.Validators[2].Active = 7
	s.Validators[3].Active = 6
	s.Validators[4] = waiting(s.Validators[4], 7)
	s.Validators[5] = waiting(s.Validators[5], api.FarFuture)
	s.Validators[6] = leaving(s.Validators[6], 40, 41)
	s.Validators[7].Slashed = true // no matter
	expectProcess(t, "not ejected", s, func(u *api.State) {
		u.Validators[3] = leaving(u.Validators[3], 40, 48)
		u.Validators[7] = leaving(u.Validators[7], 41, 49)
	})
}

// P12.3: those in the line come five epochs on: the first ones by epoch, then by place, as many as may.
func TestProcessComes(t *testing.T) {
	s := stateOf(8, 27)
	for i, eligible := range []uint64{4, 3, 5, 3, 4, 3, 0} {
		s.Validators[i] = waiting(s.Validators[i], eligible)
	}
	s.Finalized.Epoch = 6
	for _, two := range [][]int{{6, 1}, {3, 5}, {0, 4}, {2}, {}} {
		expectProcess(t, "comes", s, func(u *api.State) {
			for _, i := range two {
				u.Validators[i].Active = 11
			}
		})
		s = registry.Process(s)
	}
}

// P12.3: of equal ones in a long line the first places come, as an unsteady sort would not have it.
func TestProcessComesByPlace(t *testing.T) {
	s := stateOf(32, 27)
	for i := range s.Validators {
		s.Validators[i] = waiting(s.Validators[i], 5-uint64(i%2))
	}
	s.Finalized.Epoch = 5
	for k := range 16 {
		first := 4*k + 1 // the odd ones, then the even ones
		if k >= 8 {
			first = 4 * (k - 8)
		}
		expectProcess(t, "comes", s, func(u *api.State) {
			u.Validators[first].Active, u.Validators[first+2].Active = 11, 11
		})
		s = registry.Process(s)
	}
	expectProcess(t, "nobody waits", s, nothing)
}

// P12.3: as many come as may by the number of those who are active now.
func TestProcessComesByChurn(t *testing.T) {
	for n, churn := range map[int]int{1: 2, 23: 2, 24: 3, 27: 3} {
		s := stateOf(n+5, 27)
		for i := range 5 {
			s.Validators[i] = waiting(s.Validators[i], 1)
		}
		s.Finalized.Epoch = 1
		expectProcess(t, "comes", s, func(u *api.State) {
			for i := range churn {
				u.Validators[i].Active = 11
			}
		})
	}
}

// P12.3: nobody comes who became eligible behind what is final, or whose coming is set; who leaves, or was slashed, may.
func TestProcessComesNot(t *testing.T) {
	s := stateOf(8, 27)
	for i, eligible := range []uint64{5, 4, 6, 7, api.FarFuture, 0, 4, 4} {
		s.Validators[i] = waiting(s.Validators[i], eligible)
		s.Validators[i].Effective = 31000
	}
	s.Validators[5].Active, s.Validators[6].Active = 12, 6
	s.Validators[7] = leaving(s.Validators[7], 3, 4)
	s.Validators[7].Slashed = true
	s.Finalized.Epoch, s.CurrentJust.Epoch, s.PreviousJust.Epoch = 3, 6, 5
	expectProcess(t, "too early", s, nothing)
	s.Finalized.Epoch = 4
	expectProcess(t, "just so", s, func(u *api.State) {
		u.Validators[1].Active, u.Validators[7].Active = 11, 11
	})
	s.Finalized.Epoch, s.Validators[1].Active, s.Validators[7].Active = 5, 0, 0
	expectProcess(t, "later", s, func(u *api.State) { u.Validators[0].Active = 11 })
}

// P12.3: who becomes eligible at an epoch's end waits until that epoch is final.
func TestProcessWaits(t *testing.T) {
	s := stateOf(3, 27)
	s.Validators[1] = waiting(s.Validators[1], api.FarFuture)
	s.Finalized.Epoch = 6
	expectProcess(t, "eligible", s, func(u *api.State) { u.Validators[1].Eligible = 7 })
	s = registry.Process(s)
	s.Slot += 4
	expectProcess(t, "waits", s, nothing)
	s.Finalized.Epoch = 7
	expectProcess(t, "comes", s, func(u *api.State) { u.Validators[1].Active = 12 })
}

// P12.3: all at once.
func TestProcessTogether(t *testing.T) {
	s := stateOf(8, 1<<32)
	s.Finalized.Epoch = 1 << 30
	s.Validators[0].Effective = 16000
	s.Validators[2] = waiting(s.Validators[2], api.FarFuture)
	s.Validators[4] = waiting(s.Validators[4], 1<<30)
	s.Validators[6] = waiting(s.Validators[6], 1<<30-1)
	s.Validators[6].Effective = 16000
	expectProcess(t, "all", s, func(u *api.State) {
		u.Validators[0] = leaving(u.Validators[0], 1<<30+5, 1<<30+13)
		u.Validators[2].Eligible = 1<<30 + 1
		u.Validators[4].Active, u.Validators[6].Active = 1<<30+5, 1<<30+5
	})
}

// P12.3: of states drawn by lot it is what the chapter's words say.
func TestProcessOfDrawn(t *testing.T) {
	lot := rand.New(rand.NewPCG(12, 3))
	eligible, left, came := 0, 0, 0
	for range 3000 {
		s := drawn(lot)
		u := registry.Process(s)
		expectProcess(t, "drawn", s, modelProcess)
		for i, v := range u.Validators {
			was := s.Validators[i]
			if v.Eligible != was.Eligible {
				eligible++
			}
			if v.Exit != was.Exit {
				left++
			}
			if v.Active != was.Active {
				came++
			}
		}
	}
	if eligible < 1000 || left < 1000 || came < 1000 {
		t.Errorf("in 3000 states %d became eligible, %d left, %d came", eligible, left, came)
	}
}
