package root

import "keystone/api"

// Checkpoint: its root.
func Checkpoint(c api.Checkpoint) api.Root { return container(number(c.Epoch), c.Root) }

// Vote: its root.
func Vote(v api.Vote) api.Root {
	return container(
		number(v.Slot),
		number(v.Index),
		v.Block,
		Checkpoint(v.Source),
		Checkpoint(v.Target),
	)
}

// Attestation: its root.
func Attestation(a api.Attestation) api.Root { return container(bits(a.Bits), Vote(a.Data), a.Sig) }

// Pending: its root.
func Pending(p api.Pending) api.Root {
	return container(bits(p.Bits), Vote(p.Data), number(p.Delay), number(p.Proposer))
}

// Indexed: its root.
func Indexed(x api.Indexed) api.Root { return container(Numbers(x.Who), Vote(x.Data), x.Sig) }

// AttesterSlashing: its root.
func AttesterSlashing(s api.AttesterSlashing) api.Root { return container(Indexed(s.A), Indexed(s.B)) }
