package registry

import (
	"slices"

	"keystone/api"
	"keystone/duty"
	"keystone/num"
)

const (
	// Slashed ones pay once more when half of the time has gone by in which the Fines of their epoch are kept:
	// then both those who were slashed ahead of them and those who were slashed behind stand there.
	halfway = api.Fines / 2

	// How far a balance must be from the effective one: it doesn't change with each small gain and loss.
	farBelow = api.Increment / 4
	farAbove = api.Increment + api.Increment/4
)

// Slash: a validator is slashed; the proposer and who told get something.
func Slash(s api.State, i, proposer, teller uint64) api.State {
	if !isPlace(s, i) || !isPlace(s, proposer) || !isPlace(s, teller) {
		return s
	}
	now, next := duty.Now(s), doorOf(s)
	s.Validators, s.Balances = slices.Clone(s.Validators), slices.Clone(s.Balances)
	v := &s.Validators[i]
	next.leave(v)
	v.Slashed = true
	v.Withdraw = max(v.Withdraw, now+api.Fines)
	s.Fines[now%api.Fines] += v.Effective
	lose(s.Balances, i, v.Effective/api.SlashQuotient)
	told := v.Effective / api.WhistleQuotient
	share := told / api.ProposerShare
	gain(s.Balances, proposer, share)
	gain(s.Balances, teller, told-share)
	return s
}

// Fine: what slashed validators lose halfway.
func Fine(s api.State) api.State {
	now := duty.Now(s)
	total := duty.Total(s, duty.Active(s, now))
	fined := min(total, fines(s)*api.SlashMultiplier)
	s.Balances = slices.Clone(s.Balances)
	for i, v := range s.Validators {
		if v.Slashed && now+halfway == v.Withdraw {
			lose(s.Balances, uint64(i), v.Effective/api.Increment*fined/total*api.Increment)
		}
	}
	return s
}

// Effective: balances that moved far enough count anew.
func Effective(s api.State) api.State {
	s.Validators = slices.Clone(s.Validators)
	// A state that isn't valid may have other numbers of balances and validators.
	for i := range min(len(s.Balances), len(s.Validators)) {
		v, balance := &s.Validators[i], s.Balances[i]
		if balance+farBelow < v.Effective || v.Effective+farAbove < balance {
			v.Effective = min(balance-balance%api.Increment, api.MaxEffective)
		}
	}
	return s
}

// fines is the sum of all that is kept of slashed balances.
func fines(s api.State) uint64 {
	sum := uint64(0)
	for _, fine := range s.Fines {
		sum += fine
	}
	return sum
}

// lose takes from a balance what is there. Only a state that isn't valid has a validator without one.
func lose(balances []uint64, i, amount uint64) {
	if i < uint64(len(balances)) {
		balances[i] = num.Less(balances[i], amount)
	}
}

// gain adds to a balance, if there is one.
func gain(balances []uint64, i, amount uint64) {
	if i < uint64(len(balances)) {
		balances[i] += amount
	}
}
