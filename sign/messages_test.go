package sign_test

import (
	"bytes"
	"math"
	"reflect"
	"testing"

	"keystone/api"
	"keystone/root"
	"keystone/sign"
)

// rootOf is a root of one byte again and again.
func rootOf(b byte) api.Root { return api.Root(bytes.Repeat([]byte{b}, 32)) }

var aVote = api.Vote{
	Slot: 6, Index: 7, Block: rootOf(8),
	Source: api.Checkpoint{Epoch: 9, Root: rootOf(10)},
	Target: api.Checkpoint{Epoch: 11, Root: rootOf(12)},
}

var aBlock = api.Block{
	Slot: 1, Proposer: 2, Parent: rootOf(7), State: rootOf(8),
	Body: api.Body{Randao: rootOf(3), Eth: api.Eth{Deposits: rootOf(4), Count: 5}, Graffiti: rootOf(6)},
}

// fullBlock is a block with something in each of its lists, and so much more beyond their limits.
func fullBlock(more int) api.Block {
	b := aBlock
	indexed := api.Indexed{Who: make([]uint64, api.MaxCommittee+more), Data: aVote, Sig: rootOf(1)}
	b.Body.Proposers = make([]api.ProposerSlashing, api.MaxProposerSlashings+more)
	b.Body.Attesters = make([]api.AttesterSlashing, api.MaxAttesterSlashings+more)
	b.Body.Attestations = make([]api.Attestation, api.MaxAttestations+more)
	b.Body.Deposits = make([]api.Deposit, api.MaxDeposits+more)
	b.Body.Exits = make([]api.SignedExit, api.MaxExits+more)
	b.Body.Proposers[0].A.Header.Slot = 3
	b.Body.Attesters[0] = api.AttesterSlashing{A: indexed, B: indexed}
	b.Body.Attestations[0] = api.Attestation{Bits: []bool{true, false}, Data: aVote}
	b.Body.Deposits[0].Data.Amount = 32000
	b.Body.Exits[0].Exit.Index = 4
	return b
}

// P7.2: Block and Vote, with answers written out.
func TestMessagesByHand(t *testing.T) {
	expect(t, "Block of a zero block", sign.Block(api.Block{}), "d5ededd8cf066ea3413c01e675dd02c8aebe44099b400dfd78a52440c6cad2a6")
	expect(t, "Block", sign.Block(aBlock), "fe8fabdaf8b3e11f70940794d9abf2897e7a72277c098e3545254ab0c442c1a7")
	expect(t, "Vote of a zero vote", sign.Vote(api.Vote{}), "eb33e19e286b28343d90a52da8dbc79e300dd0d2b21bbd2005bd2dd0feb91a4e")
	expect(t, "Vote", sign.Vote(aVote), "8fbe8b1d0f55aa2131a9539204284040ec6c44e7fea437f8a8fa491ee2d823ef")
}

// P7.2: Epoch, with answers written out: numbers of one byte up to eight.
func TestEpochByHand(t *testing.T) {
	tests := []struct {
		e    uint64
		want string
	}{
		{0, "1205f4789155711e2542dba1a64d226626fe3eb43baa854752d0b59077e010fc"},
		{1, "ff55c97976a840b4ced964ed49e3794594ba3f675238b5fd25d282b60f70a194"},
		{255, "97a97beb525608be92b2b31cc616526da558f17e1b9bedff92aa57958eaa091a"},
		{256, "2aba15339594e4efcfbf328385b61bee4a9c981b22e630625a8b261946ac099d"},
		{1 << 32, "d05b98d63bfa191f72d49f8fb4b8dc7cf90e4354138e206457e24f88b4dc47bc"},
		{api.FarFuture, "a9bb189473e8bd2ab4055914a84b0b1313954ec80bef2b113e4a8bf338b5c1ea"},
	}
	for _, x := range tests {
		expect(t, "Epoch", sign.Epoch(x.e), x.want)
	}
}

// P7.2: Epoch is Message of the number as a root, and Random; no two epochs have one message.
func TestEpoch(t *testing.T) {
	seen := map[api.Root]uint64{}
	for shift := range 64 {
		for _, e := range []uint64{1 << shift, 1<<shift | 1<<63 | 5, math.MaxUint64 >> shift &^ 2} {
			got := sign.Epoch(e)
			if want := modelPair(modelNumber(e), modelNumber(2)); got != want || got != sign.Message(modelNumber(e), sign.Random) {
				t.Errorf("Epoch(%d) = %x; want %x", e, got, want)
			}
			if other, ok := seen[got]; ok && other != e {
				t.Errorf("Epoch(%d) is that of %d", e, other)
			}
			seen[got] = e
		}
	}
}

// P7.2: a block's message is that of its root, and so of its header, and Proposal; with lists at their limits and beyond.
func TestBlock(t *testing.T) {
	for _, b := range []api.Block{{}, aBlock, fullBlock(0), fullBlock(1)} {
		got := sign.Block(b)
		if want := modelPair(root.Block(b), modelNumber(0)); got != want {
			t.Errorf("Block = %x; want %x", got, want)
		}
		if got != sign.Message(root.Header(root.ToHeader(b)), sign.Proposal) {
			t.Error("Block isn't the message of its header's root and Proposal")
		}
	}
}

// P7.2: a vote's message is that of its root and Attest.
func TestVote(t *testing.T) {
	for _, v := range []api.Vote{{}, aVote, {Slot: math.MaxUint64}, {Target: api.Checkpoint{Epoch: 1}}, {Source: api.Checkpoint{Epoch: 1}}} {
		if got, want := sign.Vote(v), modelPair(root.Vote(v), modelNumber(1)); got != want {
			t.Errorf("Vote = %x; want %x", got, want)
		}
	}
}

// P7.2: each field of a block and of a vote tells.
func TestEachFieldTells(t *testing.T) {
	blocks := []func(*api.Block){
		func(b *api.Block) {},
		func(b *api.Block) { b.Slot++ },
		func(b *api.Block) { b.Proposer++ },
		func(b *api.Block) { b.Parent[31]++ },
		func(b *api.Block) { b.State[31]++ },
		func(b *api.Block) { b.Body.Randao[31]++ },
		func(b *api.Block) { b.Body.Eth.Count++ },
		func(b *api.Block) { b.Body.Graffiti[31]++ },
		func(b *api.Block) { b.Body.Proposers[0].B.Sig[31]++ },
		func(b *api.Block) { b.Body.Attesters[0].B.Who[31]++ },
		func(b *api.Block) { b.Body.Attestations[7].Sig[31]++ },
		func(b *api.Block) { b.Body.Deposits[3].Proof[5][31]++ },
		func(b *api.Block) { b.Body.Exits[1].Exit.Epoch++ },
	}
	votes := []func(*api.Vote){
		func(v *api.Vote) {},
		func(v *api.Vote) { v.Slot++ },
		func(v *api.Vote) { v.Index++ },
		func(v *api.Vote) { v.Block[31]++ },
		func(v *api.Vote) { v.Source.Epoch++ },
		func(v *api.Vote) { v.Source.Root[31]++ },
		func(v *api.Vote) { v.Target.Epoch++ },
		func(v *api.Vote) { v.Target.Root[31]++ },
		func(v *api.Vote) { v.Source, v.Target = v.Target, v.Source },
	}
	seen := map[api.Root]bool{}
	for _, change := range blocks {
		b := fullBlock(0)
		change(&b)
		seen[sign.Block(b)] = true
	}
	for _, change := range votes {
		v := aVote
		change(&v)
		seen[sign.Vote(v)] = true
	}
	if want := len(blocks) + len(votes); len(seen) != want {
		t.Errorf("%d blocks and votes have %d messages", want, len(seen))
	}
}

// R5, R6: a block's empty lists are as nil, and its lists stay as they were.
func TestBlockStays(t *testing.T) {
	b, before := fullBlock(1), fullBlock(1)
	sign.Block(b)
	if !reflect.DeepEqual(b, before) {
		t.Error("Block changed its block")
	}
	empty := aBlock
	empty.Body.Attestations = []api.Attestation{}
	empty.Body.Exits = fullBlock(0).Body.Exits[:0]
	if sign.Block(empty) != sign.Block(aBlock) {
		t.Error("Block of empty lists isn't that of nil")
	}
}
