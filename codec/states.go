package codec

import (
	"keystone/api"
	"keystone/ssz"
)

// Validator: its bytes.
func Validator(v api.Validator) []byte { return encode(v, putValidator) }

// ToValidator: of bytes.
func ToValidator(b []byte) (api.Validator, api.Errno) {
	return decode(b, validatorSize, takeValidator)
}

func putValidator(w *ssz.Writer, v api.Validator) {
	w.Root(v.Key, v.Cred)
	w.Num(v.Effective)
	putTruth(w, v.Slashed)
	w.Num(v.Eligible, v.Active, v.Exit, v.Withdraw)
}

func takeValidator(r *ssz.Reader) api.Validator {
	return api.Validator{
		Key:       r.Root(),
		Cred:      r.Root(),
		Effective: r.Num(),
		Slashed:   r.Bool(),
		Eligible:  r.Num(),
		Active:    r.Num(),
		Exit:      r.Num(),
		Withdraw:  r.Num(),
	}
}

// State: its bytes.
func State(s api.State) []byte {
	var w ssz.Writer
	w.Num(s.Slot)
	putHeader(&w, s.Header)
	w.Root(s.BlockRoots[:]...)
	w.Root(s.StateRoots[:]...)
	putEth(&w, s.Eth)
	w.Part(ethVotes().Encode(s.EthVotes))
	w.Num(s.Deposited)
	w.Part(validators().Encode(s.Validators))
	w.Part(numbers(api.MaxValidators).Encode(s.Balances))
	w.Root(s.Mixes[:]...)
	w.Num(s.Fines[:]...)
	w.Part(pendings().Encode(s.Previous))
	w.Part(pendings().Encode(s.Current))
	w.Fixed(ssz.PutBits(s.Bits[:], false))
	putCheckpoint(&w, s.PreviousJust)
	putCheckpoint(&w, s.CurrentJust)
	putCheckpoint(&w, s.Finalized)
	return w.Bytes()
}

// ToState: of bytes.
func ToState(b []byte) (api.State, api.Errno) {
	r := ssz.Read(b, stateSize)
	s := takeState(r)
	parts, ok := r.Parts()
	if !ok {
		return answer(s, false)
	}
	var errs [stateParts]api.Errno
	s.EthVotes, errs[0] = ethVotes().Decode(parts[0])
	s.Validators, errs[1] = validators().Decode(parts[1])
	s.Balances, errs[2] = numbers(api.MaxValidators).Decode(parts[2])
	s.Previous, errs[3] = pendings().Decode(parts[3])
	s.Current, errs[4] = pendings().Decode(parts[4])
	return answer(s, errs == [stateParts]api.Errno{})
}

// takeState is a state without its lists, whose places it goes by.
func takeState(r *ssz.Reader) api.State {
	var s api.State
	s.Slot = r.Num()
	s.Header = takeHeader(r)
	takeRoots(r, s.BlockRoots[:])
	takeRoots(r, s.StateRoots[:])
	s.Eth = takeEth(r)
	r.Part() // EthVotes
	s.Deposited = r.Num()
	r.Part() // Validators
	r.Part() // Balances
	takeRoots(r, s.Mixes[:])
	takeNumbers(r, s.Fines[:])
	r.Part() // Previous
	r.Part() // Current
	s.Bits = takeJustBits(r)
	s.PreviousJust = takeCheckpoint(r)
	s.CurrentJust = takeCheckpoint(r)
	s.Finalized = takeCheckpoint(r)
	return s
}

func takeJustBits(r *ssz.Reader) [4]bool {
	var bits [4]bool
	few, errno := ssz.TakeFew(r.Fixed(justBitsSize), len(bits))
	if errno != api.OK {
		r.Fail()
	}
	copy(bits[:], few)
	return bits
}
