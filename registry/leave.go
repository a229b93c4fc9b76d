package registry

import (
	"slices"

	"keystone/api"
	"keystone/duty"
)

// door is where the next one who leaves goes out.
type door struct {
	epoch uint64 // the last one in which somebody goes, or the first in which one may
	count uint64 // how many go in it
	churn uint64 // how many may
}

// Leave: a validator's leaving is set, if it isn't yet.
func Leave(s api.State, i uint64) api.State {
	if !isPlace(s, i) {
		return s
	}
	next := doorOf(s)
	s.Validators = slices.Clone(s.Validators)
	next.leave(&s.Validators[i])
	return s
}

// doorOf is where the next one of a state goes out. It is counted once for all who leave at an epoch's end.
func doorOf(s api.State) door {
	last := Soon(duty.Now(s))
	for _, v := range s.Validators {
		if v.Exit != api.FarFuture {
			last = max(last, v.Exit)
		}
	}
	next := door{epoch: last, churn: Churn(s)}
	for _, v := range s.Validators {
		if v.Exit == last {
			next.count++
		}
	}
	return next
}

// leave lets a validator go out, unless it is set already when it does.
func (d *door) leave(v *api.Validator) {
	if v.Exit != api.FarFuture {
		return
	}
	if d.count >= d.churn {
		d.epoch, d.count = d.epoch+1, 0
	}
	d.count++
	v.Exit, v.Withdraw = d.epoch, d.epoch+api.WithdrawDelay
}
