package duty_test

import (
	"math"
	"testing"

	"keystone/api"
	"keystone/duty"
)

func expectProposer(t *testing.T, s api.State, want uint64, errno api.Errno) {
	t.Helper()
	if got, e := duty.Proposer(s); got != want || e != errno {
		t.Errorf("slot %d: Proposer = %d, %d; want %d, %d", s.Slot, got, e, want, errno)
	}
}

// P9.3: proposers, with answers written out.
func TestProposerByHand(t *testing.T) {
	for _, x := range []struct{ slot, want uint64 }{
		{0, 0}, {1, 4}, {2, 2}, {3, 3}, {4, 15}, {8, 14}, {9, 3}, {10, 10}, {11, 1}, {1<<32 - 1, 13},
	} {
		expectProposer(t, stateOf(16, x.slot), x.want, api.OK)
	}
	for _, x := range []struct{ slot, want uint64 }{
		{0, 20}, {1, 15}, {2, 15}, {3, 20}, {4, 20}, {8, 12}, {9, 12}, {10, 15}, {11, 20}, {40, 21}, {41, 15}, {42, 7}, {43, 23}, {1<<32 - 1, 20},
	} {
		expectProposer(t, comeAndGo(x.slot), x.want, api.OK)
	}
}

// P9.3: the proposer of each of many slots is one who is active, and what the chapter's words say.
func TestProposer(t *testing.T) {
	for _, slot := range append(edges(), upTo(120)...) {
		for _, s := range []api.State{stateOf(1, slot), stateOf(16, slot), stateOf(32, slot), stateOf(300, slot), comeAndGo(slot)} {
			want, errno := modelProposer(s)
			expectProposer(t, s, want, errno)
			if errno != api.OK || !duty.IsActive(s.Validators[want], duty.Now(s)) {
				t.Errorf("slot %d: %d, %d", slot, want, errno)
			}
		}
	}
}

// P9.3: nobody is active: ErrEmpty.
func TestProposerOfNobody(t *testing.T) {
	expectProposer(t, api.State{}, 0, api.ErrEmpty)
	expectProposer(t, stateOf(0, math.MaxUint64), 0, api.ErrEmpty)
	s := stateOf(9, 21)
	for i := range s.Validators {
		s.Validators[i].Active, s.Validators[i].Exit = uint64(i/5*6), uint64(5+i/5*9) // until epoch 4, or from epoch 6 on
	}
	expectProposer(t, s, 0, api.ErrEmpty)
}

// P9.3: one alone is the proposer, at whichever place.
func TestProposerAlone(t *testing.T) {
	for i := range 12 {
		s := stateOf(12, 30)
		for k := range s.Validators {
			if k != i {
				s.Validators[k].Exit = 7
			}
		}
		expectProposer(t, s, uint64(i), api.OK)
	}
}
