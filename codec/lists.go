package codec

import (
	"keystone/api"
	"keystone/ssz"
)

// Each of the protocol's lists, made anew by a function. A list without a Size has elements of any size.

func numbers(limit int) ssz.List[uint64] {
	return ssz.List[uint64]{
		Size:  numberSize,
		Limit: limit,
		Put:   func(n uint64) []byte { return encode(n, putNumber) },
		Take:  func(b []byte) (uint64, api.Errno) { return decode(b, numberSize, takeNumber) },
	}
}

func proposerSlashings() ssz.List[api.ProposerSlashing] {
	return ssz.List[api.ProposerSlashing]{
		Size:  proposerSlashingSize,
		Limit: api.MaxProposerSlashings,
		Put:   ProposerSlashing,
		Take:  ToProposerSlashing,
	}
}

func attesterSlashings() ssz.List[api.AttesterSlashing] {
	return ssz.List[api.AttesterSlashing]{
		Limit: api.MaxAttesterSlashings,
		Put:   AttesterSlashing,
		Take:  ToAttesterSlashing,
	}
}

func attestations() ssz.List[api.Attestation] {
	return ssz.List[api.Attestation]{
		Limit: api.MaxAttestations,
		Put:   Attestation,
		Take:  ToAttestation,
	}
}

func deposits() ssz.List[api.Deposit] {
	return ssz.List[api.Deposit]{
		Size:  depositSize,
		Limit: api.MaxDeposits,
		Put:   Deposit,
		Take:  ToDeposit,
	}
}

func exits() ssz.List[api.SignedExit] {
	return ssz.List[api.SignedExit]{
		Size:  signedExitSize,
		Limit: api.MaxExits,
		Put:   SignedExit,
		Take:  ToSignedExit,
	}
}

func ethVotes() ssz.List[api.Eth] {
	return ssz.List[api.Eth]{
		Size:  ethSize,
		Limit: api.MaxEthVotes,
		Put:   func(e api.Eth) []byte { return encode(e, putEth) },
		Take:  func(b []byte) (api.Eth, api.Errno) { return decode(b, ethSize, takeEth) },
	}
}

func validators() ssz.List[api.Validator] {
	return ssz.List[api.Validator]{
		Size:  validatorSize,
		Limit: api.MaxValidators,
		Put:   Validator,
		Take:  ToValidator,
	}
}

func pendings() ssz.List[api.Pending] {
	return ssz.List[api.Pending]{
		Limit: api.MaxPending,
		Put:   Pending,
		Take:  ToPending,
	}
}
