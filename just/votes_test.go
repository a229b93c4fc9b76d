package just_test

import (
	"math"
	"math/rand/v2"
	"testing"

	"keystone/api"
	"keystone/just"
)

// P10.1: Root is the block at an epoch's first slot, if that is behind the state, and no more than 16 slots.
func TestRoot(t *testing.T) {
	tests := []struct {
		slot, epoch uint64
		want        api.Root
		errno       api.Errno
	}{
		{0, 0, api.Root{}, api.ErrRange}, // not yet
		{1, 0, rootOf(1), api.OK},
		{4, 0, rootOf(1), api.OK}, {4, 1, api.Root{}, api.ErrRange},
		{5, 1, rootOf(5), api.OK}, {5, 2, api.Root{}, api.ErrRange},
		{11, 0, rootOf(1), api.OK}, {11, 1, rootOf(5), api.OK}, {11, 2, rootOf(9), api.OK}, {11, 3, api.Root{}, api.ErrRange},
		{16, 0, rootOf(1), api.OK}, {17, 0, api.Root{}, api.ErrRange}, // forgotten
		{17, 4, rootOf(1), api.OK}, {23, 5, rootOf(5), api.OK}, {23, 2, rootOf(9), api.OK}, {23, 1, api.Root{}, api.ErrRange},
		{1 << 32, 1<<30 - 1, rootOf(13), api.OK}, {1 << 32, 1 << 30, api.Root{}, api.ErrRange},
		{11, 1 << 62, rootOf(1), api.OK}, {11, 1<<62 + 2, rootOf(9), api.OK}, // Start is modulo 2^64
		{11, 1<<62 + 3, api.Root{}, api.ErrRange}, {11, 1<<62 - 1, api.Root{}, api.ErrRange}, {11, math.MaxUint64, api.Root{}, api.ErrRange},
	}
	for _, x := range tests {
		got, e := just.Root(stateOf(3, x.slot), x.epoch)
		if got != x.want || e != x.errno {
			t.Errorf("slot %d: Root(%d) = %v, %d; want %v, %d", x.slot, x.epoch, got, e, x.want, x.errno)
		}
	}
}

// voted is a state in the slot 22 with votes of which each differs from what is right in its own way.
func voted() api.State {
	s := stateOf(11, 22)
	s.Previous = []api.Pending{
		pendingOf(16, 0, "11"),
		pendingOf(17, 0, "110"), // for a wrong block in its slot
		pendingOf(19, 0, "101"), // for a wrong checkpoint
		pendingOf(18, 0, "010"),
	}
	s.Previous[1].Data.Block = blockOf(16)
	s.Previous[2].Data.Target.Root = blockOf(20)
	s.Current = []api.Pending{
		pendingOf(21, 0, "111"),
		pendingOf(20, 0, "00"), // for a wrong checkpoint, and a wrong block
		pendingOf(20, 0, "01"),
		pendingOf(21, 0, "001"), // for a wrong block
	}
	s.Current[1].Data.Target.Root, s.Current[1].Data.Block = api.Root{}, api.Root{}
	s.Current[3].Data.Block = api.Root{}
	return s
}

// P10.1: Sources, Targets and Heads of the state's epoch and of the one ahead, in their order.
func TestVotesByHand(t *testing.T) {
	s := voted()
	p, c := s.Previous, s.Current
	expectPending(t, "Sources(5)", just.Sources(s, 5), c)
	expectPending(t, "Targets(5)", just.Targets(s, 5), []api.Pending{c[0], c[2], c[3]})
	expectPending(t, "Heads(5)", just.Heads(s, 5), []api.Pending{c[0], c[2]})
	expectPending(t, "Sources(4)", just.Sources(s, 4), p)
	expectPending(t, "Targets(4)", just.Targets(s, 4), []api.Pending{p[0], p[1], p[3]})
	expectPending(t, "Heads(4)", just.Heads(s, 4), []api.Pending{p[0], p[3]})
}

// P10.1: of any other epoch there are none, those of which the state keeps a root and those whose first slot wraps among them.
func TestVotesOfOtherEpochs(t *testing.T) {
	s := voted()
	for _, epoch := range []uint64{0, 1, 2, 3, 6, 7, 21, 22, 1<<62 + 4, 1<<62 + 5, 1 << 63, math.MaxUint64} {
		expectPending(t, "Sources", just.Sources(s, epoch), nil)
		expectPending(t, "Targets", just.Targets(s, epoch), nil)
		expectPending(t, "Heads", just.Heads(s, epoch), nil)
	}
}

// P10.1: in the first epoch, which is the one ahead too, Current counts.
func TestVotesOfFirstEpoch(t *testing.T) {
	s := stateOf(5, 3)
	s.Previous, s.Current = []api.Pending{pendingOf(0, 0, "1")}, []api.Pending{pendingOf(1, 0, "1")}
	expectPending(t, "Sources(0)", just.Sources(s, 0), s.Current)
	expectPending(t, "Targets(0)", just.Targets(s, 0), s.Current)
	expectPending(t, "Heads(0)", just.Heads(s, 0), s.Current)
	expectPending(t, "Sources(1)", just.Sources(s, 1), nil)
	s.Slot = 4
	expectPending(t, "Sources(0)", just.Sources(s, 0), s.Previous)
	expectPending(t, "Sources(1)", just.Sources(s, 1), s.Current)
}

// P10.1: no Targets and no Heads where Root is an error, though the zero root is voted for.
func TestTargetsWithoutRoot(t *testing.T) {
	s := stateOf(5, 8)
	zero := pendingOf(8, 0, "1")
	zero.Data.Block, zero.Data.Target.Root = api.Root{}, api.Root{}
	s.Current, s.Previous = []api.Pending{zero}, []api.Pending{pendingOf(4, 0, "1")}
	expectPending(t, "Sources(2)", just.Sources(s, 2), s.Current)
	expectPending(t, "Targets(2)", just.Targets(s, 2), nil)
	expectPending(t, "Heads(2)", just.Heads(s, 2), nil)
	expectPending(t, "Heads(1)", just.Heads(s, 1), s.Previous)
}

// P10.1: a vote for a slot of which the state keeps no block is none of Heads, though it is for the zero root.
func TestHeadsWithoutBlock(t *testing.T) {
	s := stateOf(5, 10)
	for _, slot := range []uint64{10, 11, 1 << 33} {
		zero := pendingOf(8, 0, "1")
		zero.Data.Slot, zero.Data.Block = slot, api.Root{}
		s.Current = []api.Pending{zero, pendingOf(9, 0, "1")}
		expectPending(t, "Targets(2)", just.Targets(s, 2), s.Current)
		expectPending(t, "Heads(2)", just.Heads(s, 2), s.Current[1:])
	}
}

// P10.1: nothing of a vote counts but the target's root, and the block in the vote's slot.
func TestVotesHangOn(t *testing.T) {
	s := stateOf(5, 11)
	p := api.Pending{Data: api.Vote{Slot: 9, Index: 7, Block: blockOf(9), Source: check(30)}, Delay: 99, Proposer: 99}
	p.Data.Target = api.Checkpoint{Epoch: 77, Root: blockOf(8)}
	s.Current = []api.Pending{p}
	expectPending(t, "Targets(2)", just.Targets(s, 2), s.Current)
	expectPending(t, "Heads(2)", just.Heads(s, 2), s.Current)
}

// P10.1: of states drawn by lot they are what the chapter's words say.
func TestVotesOfDrawn(t *testing.T) {
	lot := rand.New(rand.NewPCG(10, 1))
	for range 500 {
		s := drawn(lot)
		now := s.Slot / 4
		for epoch := now - min(now, 6); epoch < now+3; epoch++ {
			expectPending(t, "Sources", just.Sources(s, epoch), modelSources(s, epoch))
			expectPending(t, "Targets", just.Targets(s, epoch), modelTargets(s, epoch))
			expectPending(t, "Heads", just.Heads(s, epoch), modelHeads(s, epoch))
		}
	}
}
