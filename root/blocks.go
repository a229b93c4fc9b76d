package root

import "keystone/api"

// Header: its root.
func Header(h api.Header) api.Root {
	return container(number(h.Slot), number(h.Proposer), h.Parent, h.State, h.Body)
}

func signedHeader(h api.SignedHeader) api.Root { return container(Header(h.Header), h.Sig) }

// ProposerSlashing: its root.
func ProposerSlashing(s api.ProposerSlashing) api.Root {
	return container(signedHeader(s.A), signedHeader(s.B))
}

// DepositMessage: the root of what is signed of a deposit.
func DepositMessage(d api.DepositData) api.Root { return container(d.Key, d.Cred, number(d.Amount)) }

// DepositData: its root.
func DepositData(d api.DepositData) api.Root {
	return container(d.Key, d.Cred, number(d.Amount), d.Sig)
}

// Deposit: its root.
func Deposit(d api.Deposit) api.Root { return container(container(d.Proof[:]...), DepositData(d.Data)) }

// Exit: its root.
func Exit(x api.Exit) api.Root { return container(number(x.Epoch), number(x.Index)) }

// SignedExit: its root.
func SignedExit(x api.SignedExit) api.Root { return container(Exit(x.Exit), x.Sig) }

// Eth: its root.
func Eth(e api.Eth) api.Root { return container(e.Deposits, number(e.Count)) }

// Body: its root.
func Body(b api.Body) api.Root {
	return container(
		b.Randao,
		Eth(b.Eth),
		b.Graffiti,
		list(b.Proposers, api.MaxProposerSlashings, ProposerSlashing),
		list(b.Attesters, api.MaxAttesterSlashings, AttesterSlashing),
		list(b.Attestations, api.MaxAttestations, Attestation),
		list(b.Deposits, api.MaxDeposits, Deposit),
		list(b.Exits, api.MaxExits, SignedExit),
	)
}

// Block: its root, which is that of its header: a body's root stands in the tree just where the body's own tree would.
func Block(b api.Block) api.Root { return Header(ToHeader(b)) }

// ToHeader: a block's header.
func ToHeader(b api.Block) api.Header {
	return api.Header{
		Slot:     b.Slot,
		Proposer: b.Proposer,
		Parent:   b.Parent,
		State:    b.State,
		Body:     Body(b.Body),
	}
}
