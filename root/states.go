package root

import "keystone/api"

// Validator: its root.
func Validator(v api.Validator) api.Root {
	return container(
		v.Key,
		v.Cred,
		number(v.Effective),
		truth(v.Slashed),
		number(v.Eligible),
		number(v.Active),
		number(v.Exit),
		number(v.Withdraw),
	)
}

// State: its root.
func State(s api.State) api.Root {
	return container(
		number(s.Slot),
		Header(s.Header),
		container(s.BlockRoots[:]...),
		container(s.StateRoots[:]...),
		Eth(s.Eth),
		list(s.EthVotes, api.MaxEthVotes, Eth),
		number(s.Deposited),
		list(s.Validators, api.MaxValidators, Validator),
		Numbers(s.Balances),
		container(s.Mixes[:]...),
		container(packed(s.Fines[:])...),
		list(s.Previous, api.MaxPending, Pending),
		list(s.Current, api.MaxPending, Pending),
		fewBits(s.Bits[:]...),
		Checkpoint(s.PreviousJust),
		Checkpoint(s.CurrentJust),
		Checkpoint(s.Finalized),
	)
}
