package duty

import (
	"slices"

	"keystone/api"
	"keystone/digest"
	"keystone/num"
	"keystone/shuffle"
)

const (
	numberBytes = 8

	// What a seed is for (chapter 8): the draw for one thing tells nothing of that for another.
	proposerSeed  = 0
	committeeSeed = 1
)

// Committees: how many there are in a slot.
func Committees(s api.State, epoch uint64) uint64 {
	return perSlot(uint64(len(Active(s, epoch))))
}

// Table is the committees of an epoch.
type Table struct {
	epoch uint64
	count uint64    // how many committees a slot has
	order []uint64  // the active ones, shuffled: each committee is a piece of it
	errno api.Errno // why there is no order: more of them than shuffle takes
}

// Make: the committees of an epoch.
func Make(s api.State, epoch uint64) *Table {
	active := Active(s, epoch)
	n := uint64(len(active))
	order, errno := shuffle.List(n, shuffle.Seed(s, epoch, committeeSeed))
	for k, place := range order {
		order[k] = active[place]
	}
	return &Table{epoch: epoch, count: perSlot(n), order: order, errno: errno}
}

// Of: one committee.
func (t *Table) Of(slot, index uint64) ([]uint64, api.Errno) {
	if t == nil {
		return nil, api.ErrNil
	}
	if Epoch(slot) != t.epoch || index >= t.count {
		return nil, api.ErrRange
	}
	if t.errno != api.OK {
		return nil, t.errno
	}
	n, k := uint64(len(t.order)), slot%api.SlotsPerEpoch*t.count+index
	all := api.SlotsPerEpoch * t.count
	// A copy: what the caller does to it must not change the table.
	return slices.Clone(t.order[n*k/all : n*(k+1)/all]), api.OK
}

// Committee: one committee of a state.
func Committee(s api.State, slot, index uint64) ([]uint64, api.Errno) {
	return Make(s, Epoch(slot)).Of(slot, index)
}

// Proposer: of a state's slot.
func Proposer(s api.State) (uint64, api.Errno) {
	now := Now(s)
	seed := shuffle.Seed(s, now, proposerSeed)
	// The epoch's seed alone would draw one proposer for all of its slots.
	ofSlot := digest.Of(slices.Concat(seed[:], num.Put(s.Slot, numberBytes)))
	return shuffle.Proposer(s, Active(s, now), ofSlot)
}

// perSlot is how many committees a slot has with so many active ones.
func perSlot(active uint64) uint64 {
	count := active / api.SlotsPerEpoch / api.TargetCommittee
	return min(max(count, 1), api.MaxCommittees)
}
