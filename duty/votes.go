package duty

import (
	"slices"

	"keystone/api"
	"keystone/sign"
)

// Who: whose votes an attestation has, rising.
func Who(s api.State, v api.Vote, bits []bool) ([]uint64, api.Errno) {
	committee, errno := Committee(s, v.Slot, v.Index)
	if errno != api.OK {
		return nil, errno
	}
	if len(bits) != len(committee) {
		return nil, api.ErrRange
	}
	var who []uint64
	for i, member := range committee {
		if bits[i] {
			who = append(who, member)
		}
	}
	slices.Sort(who)
	return who, api.OK
}

// Index: an attestation by its voters' places.
func Index(s api.State, a api.Attestation) (api.Indexed, api.Errno) {
	who, errno := Who(s, a.Data, a.Bits)
	if errno != api.OK {
		return api.Indexed{}, errno
	}
	return api.Indexed{Who: who, Data: a.Data, Sig: a.Sig}, api.OK
}

// Valid: are the places rising, those of validators, one at least, and the tag theirs?
func Valid(s api.State, x api.Indexed) bool {
	// Of nobody's keys no tag is valid: sign says so.
	if len(x.Who) > api.MaxCommittee || !isRising(x.Who) {
		return false
	}
	keys := make([]api.Root, len(x.Who))
	for i, place := range x.Who {
		if !isPlace(place, s.Validators) {
			return false
		}
		keys[i] = s.Validators[place].Key
	}
	return sign.Valid(keys, sign.Vote(x.Data), x.Sig)
}

// Slashable: do two votes not go together: two for one target epoch, or one around the other?
func Slashable(a, b api.Vote) bool {
	isDouble := a != b && a.Target.Epoch == b.Target.Epoch
	isAround := a.Source.Epoch < b.Source.Epoch && a.Target.Epoch > b.Target.Epoch
	return isDouble || isAround
}

// isRising tells if each place is greater than the one ahead.
func isRising(places []uint64) bool {
	for i := 1; i < len(places); i++ {
		if places[i] <= places[i-1] {
			return false
		}
	}
	return true
}
