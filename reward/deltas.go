package reward

import (
	"cmp"
	"slices"

	"keystone/api"
	"keystone/duty"
	"keystone/just"
	"keystone/num"
)

// Deltas are what validators get, and lose.
type Deltas struct{ Up, Down []uint64 }

// Part: for one kind of votes.
func Part(s api.State, l []api.Pending) Deltas {
	d, base, voters := nothing(s), bases(s), just.Voters(s, l)
	voted, all := duty.Total(s, voters)/api.Increment, total(s)/api.Increment
	for _, i := range Eligible(s) {
		switch {
		case !isAmong(voters, i):
			d.Down[i] = base[i]
		case Leaking(s): // the votes that others don't cast cost a voter nothing
			d.Up[i] = base[i]
		default:
			d.Up[i] = base[i] * voted / all
		}
	}
	return d
}

// Inclusion: for being taken soon, to the voters and to those who took their votes.
func Inclusion(s api.State) Deltas {
	d, base := nothing(s), bases(s)
	paid := make([]bool, len(s.Validators))
	for _, a := range soonest(just.Sources(s, duty.Before(s))) {
		for _, voter := range just.Voters(s, []api.Pending{a}) {
			if !paid[voter] {
				paid[voter] = true
				d.include(a, voter, base[voter])
			}
		}
	}
	return d
}

// Leak: for not voting while nothing is final.
func Leak(s api.State) Deltas {
	d := nothing(s)
	if !Leaking(s) {
		return d
	}
	base, voters := bases(s), just.Voters(s, just.Targets(s, duty.Before(s)))
	for _, i := range Eligible(s) {
		// All that a voter can get: who votes for what is right at once loses nothing, and gets nothing.
		d.Down[i] = api.RewardsPerEpoch*base[i] - base[i]/api.ProposerShare
		if !isAmong(voters, i) {
			d.Down[i] += s.Validators[i].Effective * Delay(s) / api.LeakQuotient
		}
	}
	return d
}

// All: together.
func All(s api.State) Deltas {
	before := duty.Before(s)
	parts := [...]Deltas{
		Part(s, just.Sources(s, before)),
		Part(s, just.Targets(s, before)),
		Part(s, just.Heads(s, before)),
		Inclusion(s),
		Leak(s),
	}
	sum := nothing(s)
	for _, d := range parts {
		for i := range s.Validators {
			sum.Up[i] += d.Up[i]
			sum.Down[i] += d.Down[i]
		}
	}
	return sum
}

// nothing is that nobody gets or loses anything.
func nothing(s api.State) Deltas {
	n := len(s.Validators)
	return Deltas{Up: make([]uint64, n), Down: make([]uint64, n)}
}

// include shares a voter's base between him and the one who took his vote.
func (d Deltas) include(a api.Pending, voter, base uint64) {
	share := base / api.ProposerShare
	// Only a state that isn't valid has a proposer who is no validator, or votes that were taken at once.
	if a.Proposer < uint64(len(d.Up)) {
		d.Up[a.Proposer] += share
	}
	rest, _ := num.Div(base-share, a.Delay)
	d.Up[voter] += rest
}

// soonest is attestations by their Delay, of equal ones the first one first.
func soonest(l []api.Pending) []api.Pending {
	return slices.SortedStableFunc(slices.Values(l), func(a, b api.Pending) int { return cmp.Compare(a.Delay, b.Delay) })
}

// isAmong tells if a validator is among some who stand there rising.
func isAmong(rising []uint64, i uint64) bool {
	_, found := slices.BinarySearch(rising, i)
	return found
}
