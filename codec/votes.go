package codec

import (
	"keystone/api"
	"keystone/ssz"
)

// Checkpoint: its bytes.
func Checkpoint(c api.Checkpoint) []byte { return encode(c, putCheckpoint) }

// ToCheckpoint: of bytes.
func ToCheckpoint(b []byte) (api.Checkpoint, api.Errno) {
	return decode(b, checkpointSize, takeCheckpoint)
}

func putCheckpoint(w *ssz.Writer, c api.Checkpoint) {
	w.Num(c.Epoch)
	w.Root(c.Root)
}

func takeCheckpoint(r *ssz.Reader) api.Checkpoint {
	return api.Checkpoint{Epoch: r.Num(), Root: r.Root()}
}

// Vote: its bytes.
func Vote(v api.Vote) []byte { return encode(v, putVote) }

// ToVote: of bytes.
func ToVote(b []byte) (api.Vote, api.Errno) { return decode(b, voteSize, takeVote) }

func putVote(w *ssz.Writer, v api.Vote) {
	w.Num(v.Slot, v.Index)
	w.Root(v.Block)
	putCheckpoint(w, v.Source)
	putCheckpoint(w, v.Target)
}

func takeVote(r *ssz.Reader) api.Vote {
	return api.Vote{
		Slot:   r.Num(),
		Index:  r.Num(),
		Block:  r.Root(),
		Source: takeCheckpoint(r),
		Target: takeCheckpoint(r),
	}
}

// Attestation: its bytes.
func Attestation(a api.Attestation) []byte {
	var w ssz.Writer
	w.Part(ssz.PutBits(a.Bits, true))
	putVote(&w, a.Data)
	w.Root(a.Sig)
	return w.Bytes()
}

// ToAttestation: of bytes.
func ToAttestation(b []byte) (api.Attestation, api.Errno) {
	r := ssz.Read(b, attestationSize)
	r.Part()
	a := api.Attestation{Data: takeVote(r), Sig: r.Root()}
	parts, ok := r.Parts()
	if !ok {
		return answer(a, false)
	}
	bits, errno := ssz.TakeBits(parts[0], api.MaxCommittee)
	a.Bits = bits
	return answer(a, errno == api.OK)
}

// Pending: its bytes.
func Pending(a api.Pending) []byte {
	var w ssz.Writer
	w.Part(ssz.PutBits(a.Bits, true))
	putVote(&w, a.Data)
	w.Num(a.Delay, a.Proposer)
	return w.Bytes()
}

// ToPending: of bytes.
func ToPending(b []byte) (api.Pending, api.Errno) {
	r := ssz.Read(b, pendingSize)
	r.Part()
	a := api.Pending{Data: takeVote(r), Delay: r.Num(), Proposer: r.Num()}
	parts, ok := r.Parts()
	if !ok {
		return answer(a, false)
	}
	bits, errno := ssz.TakeBits(parts[0], api.MaxCommittee)
	a.Bits = bits
	return answer(a, errno == api.OK)
}

// Indexed: its bytes.
func Indexed(x api.Indexed) []byte {
	var w ssz.Writer
	w.Part(numbers(api.MaxCommittee).Encode(x.Who))
	putVote(&w, x.Data)
	w.Root(x.Sig)
	return w.Bytes()
}

// ToIndexed: of bytes.
func ToIndexed(b []byte) (api.Indexed, api.Errno) {
	r := ssz.Read(b, indexedSize)
	r.Part()
	x := api.Indexed{Data: takeVote(r), Sig: r.Root()}
	parts, ok := r.Parts()
	if !ok {
		return answer(x, false)
	}
	who, errno := numbers(api.MaxCommittee).Decode(parts[0])
	x.Who = who
	return answer(x, errno == api.OK)
}

// AttesterSlashing: its bytes.
func AttesterSlashing(s api.AttesterSlashing) []byte {
	var w ssz.Writer
	w.Part(Indexed(s.A))
	w.Part(Indexed(s.B))
	return w.Bytes()
}

// ToAttesterSlashing: of bytes.
func ToAttesterSlashing(b []byte) (api.AttesterSlashing, api.Errno) {
	r := ssz.Read(b, attesterSlashingSize)
	r.Part()
	r.Part()
	var s api.AttesterSlashing
	parts, ok := r.Parts()
	if !ok {
		return answer(s, false)
	}
	var errs [2]api.Errno
	s.A, errs[0] = ToIndexed(parts[0])
	s.B, errs[1] = ToIndexed(parts[1])
	return answer(s, errs == [2]api.Errno{})
}
