package just

import (
	"slices"

	"keystone/api"
	"keystone/duty"
)

// tables are the committees of some epochs: each epoch's are made once, however many votes ask for them.
type tables map[uint64]*duty.Table

// Voters: whose votes some pending attestations have, rising, without those who were slashed.
func Voters(s api.State, l []api.Pending) []uint64 {
	byEpoch := tables{}
	// One who voted again and again stands there once.
	voters := map[uint64]struct{}{}
	for _, p := range l {
		for i, member := range byEpoch.committee(s, p.Data) {
			if i < len(p.Bits) && p.Bits[i] && !s.Validators[member].Slashed {
				voters[member] = struct{}{}
			}
		}
	}
	var rising []uint64
	for voter := range voters {
		rising = append(rising, voter)
	}
	slices.Sort(rising)
	return rising
}

// Enough: do votes of some validators have two thirds of all active ones' balances?
func Enough(s api.State, some []uint64) bool {
	return 3*duty.Total(s, some) >= 2*duty.Total(s, duty.Active(s, duty.Now(s)))
}

// committee is that of a vote, of nobody if there is none.
func (t tables) committee(s api.State, v api.Vote) []uint64 {
	epoch := duty.Epoch(v.Slot)
	if t[epoch] == nil {
		t[epoch] = duty.Make(s, epoch)
	}
	members, errno := t[epoch].Of(v.Slot, v.Index)
	if errno != api.OK {
		return nil
	}
	return members
}
