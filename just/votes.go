package just

import (
	"slices"

	"keystone/api"
	"keystone/duty"
)

// Root: the block at an epoch's beginning that a state keeps.
func Root(s api.State, epoch uint64) (api.Root, api.Errno) {
	return duty.BlockAt(s, duty.Start(epoch))
}

// Sources: the pending attestations of a state's epoch, or the one ahead.
func Sources(s api.State, epoch uint64) []api.Pending {
	switch epoch {
	case duty.Now(s): // in the first epoch, which is the one ahead as well, these alone
		return copied(s.Current)
	case duty.Before(s):
		return copied(s.Previous)
	}
	return nil
}

// Targets: those for the right block at the epoch's beginning.
func Targets(s api.State, epoch uint64) []api.Pending {
	root, errno := Root(s, epoch)
	if errno != api.OK {
		return nil
	}
	isWrong := func(p api.Pending) bool { return p.Data.Target.Root != root }
	return slices.DeleteFunc(Sources(s, epoch), isWrong)
}

// Heads: of those the ones for the right block in their slot.
func Heads(s api.State, epoch uint64) []api.Pending {
	isWrong := func(p api.Pending) bool {
		block, errno := duty.BlockAt(s, p.Data.Slot)
		return errno != api.OK || p.Data.Block != block
	}
	return slices.DeleteFunc(Targets(s, epoch), isWrong)
}

// copied is pending attestations with bits of their own: what the caller does to them must not change the state.
func copied(l []api.Pending) []api.Pending {
	l = slices.Clone(l)
	for i := range l {
		l[i].Bits = slices.Clone(l[i].Bits)
	}
	return l
}
