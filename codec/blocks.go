package codec

import (
	"keystone/api"
	"keystone/ssz"
)

// Header: its bytes.
func Header(h api.Header) []byte { return encode(h, putHeader) }

// ToHeader: of bytes.
func ToHeader(b []byte) (api.Header, api.Errno) { return decode(b, headerSize, takeHeader) }

func putHeader(w *ssz.Writer, h api.Header) {
	w.Num(h.Slot, h.Proposer)
	w.Root(h.Parent, h.State, h.Body)
}

func takeHeader(r *ssz.Reader) api.Header {
	return api.Header{
		Slot:     r.Num(),
		Proposer: r.Num(),
		Parent:   r.Root(),
		State:    r.Root(),
		Body:     r.Root(),
	}
}

func putSignedHeader(w *ssz.Writer, h api.SignedHeader) {
	putHeader(w, h.Header)
	w.Root(h.Sig)
}

func takeSignedHeader(r *ssz.Reader) api.SignedHeader {
	return api.SignedHeader{Header: takeHeader(r), Sig: r.Root()}
}

// ProposerSlashing: its bytes.
func ProposerSlashing(s api.ProposerSlashing) []byte { return encode(s, putProposerSlashing) }

// ToProposerSlashing: of bytes.
func ToProposerSlashing(b []byte) (api.ProposerSlashing, api.Errno) {
	return decode(b, proposerSlashingSize, takeProposerSlashing)
}

func putProposerSlashing(w *ssz.Writer, s api.ProposerSlashing) {
	putSignedHeader(w, s.A)
	putSignedHeader(w, s.B)
}

func takeProposerSlashing(r *ssz.Reader) api.ProposerSlashing {
	return api.ProposerSlashing{A: takeSignedHeader(r), B: takeSignedHeader(r)}
}

// DepositData: its bytes.
func DepositData(d api.DepositData) []byte { return encode(d, putDepositData) }

func putDepositData(w *ssz.Writer, d api.DepositData) {
	w.Root(d.Key, d.Cred)
	w.Num(d.Amount)
	w.Root(d.Sig)
}

func takeDepositData(r *ssz.Reader) api.DepositData {
	return api.DepositData{
		Key:    r.Root(),
		Cred:   r.Root(),
		Amount: r.Num(),
		Sig:    r.Root(),
	}
}

// Deposit: its bytes.
func Deposit(d api.Deposit) []byte { return encode(d, putDeposit) }

// ToDeposit: of bytes.
func ToDeposit(b []byte) (api.Deposit, api.Errno) { return decode(b, depositSize, takeDeposit) }

func putDeposit(w *ssz.Writer, d api.Deposit) {
	w.Root(d.Proof[:]...)
	putDepositData(w, d.Data)
}

func takeDeposit(r *ssz.Reader) api.Deposit {
	var d api.Deposit
	takeRoots(r, d.Proof[:])
	d.Data = takeDepositData(r)
	return d
}

// SignedExit: its bytes.
func SignedExit(x api.SignedExit) []byte { return encode(x, putSignedExit) }

// ToSignedExit: of bytes.
func ToSignedExit(b []byte) (api.SignedExit, api.Errno) {
	return decode(b, signedExitSize, takeSignedExit)
}

func putSignedExit(w *ssz.Writer, x api.SignedExit) {
	w.Num(x.Exit.Epoch, x.Exit.Index)
	w.Root(x.Sig)
}

func takeSignedExit(r *ssz.Reader) api.SignedExit {
	return api.SignedExit{
		Exit: api.Exit{Epoch: r.Num(), Index: r.Num()},
		Sig:  r.Root(),
	}
}

func putEth(w *ssz.Writer, e api.Eth) {
	w.Root(e.Deposits)
	w.Num(e.Count)
}

func takeEth(r *ssz.Reader) api.Eth {
	return api.Eth{Deposits: r.Root(), Count: r.Num()}
}

// Body: its bytes.
func Body(b api.Body) []byte {
	var w ssz.Writer
	w.Root(b.Randao)
	putEth(&w, b.Eth)
	w.Root(b.Graffiti)
	w.Part(proposerSlashings().Encode(b.Proposers))
	w.Part(attesterSlashings().Encode(b.Attesters))
	w.Part(attestations().Encode(b.Attestations))
	w.Part(deposits().Encode(b.Deposits))
	w.Part(exits().Encode(b.Exits))
	return w.Bytes()
}

// ToBody: of bytes.
func ToBody(b []byte) (api.Body, api.Errno) {
	r := ssz.Read(b, bodySize)
	body := api.Body{Randao: r.Root(), Eth: takeEth(r), Graffiti: r.Root()}
	for range bodyParts {
		r.Part()
	}
	parts, ok := r.Parts()
	if !ok {
		return answer(body, false)
	}
	var errs [bodyParts]api.Errno
	body.Proposers, errs[0] = proposerSlashings().Decode(parts[0])
	body.Attesters, errs[1] = attesterSlashings().Decode(parts[1])
	body.Attestations, errs[2] = attestations().Decode(parts[2])
	body.Deposits, errs[3] = deposits().Decode(parts[3])
	body.Exits, errs[4] = exits().Decode(parts[4])
	return answer(body, errs == [bodyParts]api.Errno{})
}

// Block: its bytes.
func Block(b api.Block) []byte {
	var w ssz.Writer
	w.Num(b.Slot, b.Proposer)
	w.Root(b.Parent, b.State)
	w.Part(Body(b.Body))
	return w.Bytes()
}

// ToBlock: of bytes.
func ToBlock(b []byte) (api.Block, api.Errno) {
	r := ssz.Read(b, blockSize)
	block := api.Block{
		Slot:     r.Num(),
		Proposer: r.Num(),
		Parent:   r.Root(),
		State:    r.Root(),
	}
	r.Part()
	parts, ok := r.Parts()
	if !ok {
		return answer(block, false)
	}
	body, errno := ToBody(parts[0])
	block.Body = body
	return answer(block, errno == api.OK)
}

// SignedBlock: its bytes.
func SignedBlock(b api.SignedBlock) []byte {
	var w ssz.Writer
	w.Part(Block(b.Block))
	w.Root(b.Sig)
	return w.Bytes()
}

// ToSignedBlock: of bytes.
func ToSignedBlock(b []byte) (api.SignedBlock, api.Errno) {
	r := ssz.Read(b, signedBlockSize)
	r.Part()
	signed := api.SignedBlock{Sig: r.Root()}
	parts, ok := r.Parts()
	if !ok {
		return answer(signed, false)
	}
	block, errno := ToBlock(parts[0])
	signed.Block = block
	return answer(signed, errno == api.OK)
}
