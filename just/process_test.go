package just_test

import (
	"math/rand/v2"
	"testing"

	"keystone/api"
	"keystone/just"
)

func expectProcess(t *testing.T, s, want api.State) {
	t.Helper()
	got := just.Process(s)
	if !same(got, want) {
		t.Errorf("slot %d: Process = %v %v %v %v; want %v %v %v %v", s.Slot,
			got.Bits, got.PreviousJust, got.CurrentJust, got.Finalized,
			want.Bits, want.PreviousJust, want.CurrentJust, want.Finalized)
	}
}

// bitsOf is bits from a text of 0 and 1.
func bitsOf(text string) [4]bool {
	return [4]bool{text[0] == '1', text[1] == '1', text[2] == '1', text[3] == '1'}
}

// atEnd is a state in an epoch's last slot, with some votes of so many of nine validators for the epoch ahead, and for its own.
func atEnd(epoch uint64, ahead, own int) api.State {
	s := stateOf(9, 4*epoch+4)
	if epoch > 0 {
		s.Previous = votesOf(s, epoch-1, upTo(uint64(ahead))...)
	}
	s.Current = votesOf(s, epoch, upTo(uint64(own))...)
	s.Slot--
	return s
}

// P10.3: in the epochs 0 and 1 nothing changes.
func TestProcessEarly(t *testing.T) {
	for slot := range uint64(8) {
		s := stateOf(9, slot)
		s.Bits, s.PreviousJust, s.CurrentJust = bitsOf("1101"), api.Checkpoint{Root: rootOf(70)}, api.Checkpoint{Root: rootOf(71)}
		s.Current = votesOf(s, slot/4, upTo(9)...)
		if slot >= 4 {
			s.Previous = votesOf(s, 0, upTo(9)...)
		}
		expectProcess(t, s, s)
	}
}

// P10.3: all vote in epoch 2 for both its checkpoint and that of epoch 1: both are justified, in order.
func TestProcessBoth(t *testing.T) {
	s := atEnd(2, 9, 9)
	want := s
	want.Bits, want.CurrentJust = bitsOf("1100"), check(2)
	expectProcess(t, s, want)
}

// P10.3: the votes for an epoch count for it alone; those of six of nine suffice, those of five don't.
func TestProcessOneOfTwo(t *testing.T) {
	tests := []struct {
		ahead, own int
		bits       string
		current    uint64
	}{
		{0, 0, "0010", 4}, {5, 5, "0010", 4},
		{6, 5, "0110", 5}, {9, 0, "0110", 5},
		{5, 6, "1010", 6}, {0, 9, "1010", 6},
		{6, 6, "1110", 6}, {9, 9, "1110", 6},
	}
	for _, x := range tests {
		s := atEnd(6, x.ahead, x.own)
		s.Bits, s.PreviousJust, s.CurrentJust, s.Finalized = bitsOf("0100"), check(1), check(4), check(1)
		want := s
		want.Bits, want.PreviousJust, want.CurrentJust = bitsOf(x.bits), check(4), check(x.current)
		if x.bits == "1110" {
			want.Finalized = check(4) // three in a row
		}
		expectProcess(t, s, want)
	}
}

// P10.3: bits move up by one place, the first becomes false, the last one is forgotten.
func TestProcessBitsMove(t *testing.T) {
	for _, x := range [][2]string{{"0000", "0000"}, {"1000", "0100"}, {"0100", "0010"}, {"0010", "0001"}, {"0001", "0000"}, {"1011", "0101"}, {"1111", "0111"}} {
		s := atEnd(9, 0, 0)
		s.Bits = bitsOf(x[0])
		want := s
		want.Bits = bitsOf(x[1])
		expectProcess(t, s, want)
	}
}

// P10.3: each of the four ways to become final, with just the bits that it needs, and each without one of them.
func TestProcessFinal(t *testing.T) {
	now := uint64(8)
	tests := []struct {
		bits         string // ahead of the epoch's end
		ahead, own   int
		old, current uint64
		final        uint64
	}{
		{"0110", 9, 0, 5, 6, 5}, // 1 2 3: old, three ahead
		{"0110", 0, 0, 5, 6, 1}, {"0010", 9, 0, 5, 6, 1}, {"0100", 9, 0, 5, 6, 1},
		{"0110", 9, 0, 4, 6, 1}, {"0110", 0, 9, 5, 6, 1},
		{"0100", 9, 0, 6, 6, 6}, // 1 2: old, two ahead
		{"0000", 9, 0, 6, 6, 1}, {"0100", 0, 0, 6, 6, 1}, {"0100", 0, 9, 6, 6, 1}, {"0100", 9, 0, 7, 6, 1}, {"0100", 9, 0, 5, 6, 1},
		{"0100", 9, 9, 4, 6, 6}, // 0 1 2: current, two ahead
		{"0100", 9, 0, 4, 6, 1}, {"0000", 9, 9, 4, 6, 1}, {"0100", 0, 9, 4, 6, 1}, {"0100", 9, 9, 4, 5, 1}, {"0100", 9, 9, 4, 8, 1},
		{"1000", 0, 9, 5, 7, 7}, // 0 1: current, one ahead, be it that the bit was there
		{"0000", 9, 9, 5, 7, 7},
		{"1000", 0, 0, 5, 7, 1}, {"0000", 0, 9, 5, 7, 1}, {"1000", 0, 9, 5, 6, 1}, {"1000", 0, 9, 5, 8, 1},
		{"1100", 0, 9, 6, 7, 7}, // more than one way: the last one counts
		{"0100", 9, 9, 6, 7, 7}, {"0110", 9, 9, 5, 6, 6}, {"0110", 9, 9, 5, 7, 7}, {"0100", 9, 9, 6, 5, 6},
	}
	for _, x := range tests {
		s := atEnd(now, x.ahead, x.own)
		s.Bits, s.PreviousJust, s.CurrentJust, s.Finalized = bitsOf(x.bits), check(x.old), check(x.current), check(1)
		got := just.Process(s)
		if got.Finalized != check(x.final) {
			t.Errorf("%+v: final is %v", x, got.Finalized)
		}
		expectProcess(t, s, modelProcess(s))
	}
}

// P10.3: old and current are those from ahead of the end: what is justified now isn't final now.
func TestProcessOldRoots(t *testing.T) {
	s := atEnd(8, 9, 9)
	s.Bits, s.PreviousJust = bitsOf("1110"), api.Checkpoint{Epoch: 6, Root: rootOf(101)}
	s.CurrentJust = api.Checkpoint{Epoch: 7, Root: rootOf(102)} // of another root than the state keeps
	want := s
	want.Bits, want.PreviousJust, want.CurrentJust, want.Finalized = bitsOf("1111"), s.CurrentJust, check(8), s.CurrentJust
	expectProcess(t, s, want)
}

// P10.3: all combinations of bits, votes, and justified epochs are as the chapter's words say.
func TestProcessOfEach(t *testing.T) {
	for k := range 16 * 4 {
		s := atEnd(7, k&1*9, k>>1&1*9)
		for i := range s.Bits {
			s.Bits[i] = k>>(2+i)&1 == 1
		}
		for old := uint64(3); old < 8; old++ {
			for current := uint64(3); current < 8; current++ {
				s.PreviousJust = api.Checkpoint{Epoch: old, Root: rootOf(101)}
				s.CurrentJust = api.Checkpoint{Epoch: current, Root: rootOf(102)}
				s.Finalized = api.Checkpoint{Epoch: min(old, current), Root: rootOf(103)}
				expectProcess(t, s, modelProcess(s))
			}
		}
	}
}

// P10.3: votes for another checkpoint than the state's, and those of slashed ones, justify nothing.
func TestProcessWrongVotes(t *testing.T) {
	s := atEnd(6, 9, 9)
	for i := range s.Current {
		s.Current[i].Data.Target.Root = rootOf(111)
	}
	want := s
	want.Bits, want.CurrentJust = bitsOf("0100"), check(5)
	expectProcess(t, s, want)
	for i := range 4 {
		s.Validators[i].Slashed = true
	}
	want.Bits, want.CurrentJust = [4]bool{}, api.Checkpoint{}
	expectProcess(t, s, want)
}

// P10.3: a vote for a wrong block in its slot is one for the checkpoint all the same.
func TestProcessWrongHeads(t *testing.T) {
	s := atEnd(6, 9, 9)
	for _, l := range [][]api.Pending{s.Current, s.Previous} {
		for i := range l {
			l[i].Data.Block = rootOf(111)
		}
	}
	want := s
	want.Bits, want.CurrentJust = bitsOf("1100"), check(6)
	expectProcess(t, s, want)
}

// P10.3: in an epoch's first slot its checkpoint isn't known: it isn't justified, though nobody's 1000 would be enough.
func TestProcessWithoutRoot(t *testing.T) {
	s := stateOf(1, 24)
	s.Validators[0].Effective = 1000
	want := s
	want.Bits, want.CurrentJust = bitsOf("0100"), check(5)
	expectProcess(t, s, want)
	s.Slot, want.Slot = 25, 25
	want.Bits, want.CurrentJust = bitsOf("1100"), check(6)
	expectProcess(t, s, want)
}

// P10.3: epochs go by in which all vote: each is justified at its end, and the one ahead is final.
func TestProcessEpochs(t *testing.T) {
	s := stateOf(9, 0)
	for epoch := uint64(2); epoch < 12; epoch++ {
		next := atEnd(epoch, 9, 9)
		next.Bits, next.PreviousJust, next.CurrentJust, next.Finalized = s.Bits, s.PreviousJust, s.CurrentJust, s.Finalized
		s = just.Process(next)
		if s.CurrentJust != check(epoch) || epoch > 2 && (s.PreviousJust != check(epoch-1) || s.Finalized != check(epoch-1)) {
			t.Errorf("epoch %d: %v %v %v", epoch, s.PreviousJust, s.CurrentJust, s.Finalized)
		}
	}
}

// P10.3: of states drawn by lot it is what the chapter's words say.
func TestProcessOfDrawn(t *testing.T) {
	lot := rand.New(rand.NewPCG(10, 3))
	justified, final := 0, 0
	for range 1500 {
		s := drawn(lot)
		want := modelProcess(s)
		expectProcess(t, s, want)
		if want.CurrentJust != s.CurrentJust {
			justified++
		}
		if want.Finalized != s.Finalized {
			final++
		}
	}
	if justified < 150 || final < 50 {
		t.Errorf("of 1500 states %d have something justified, %d something final", justified, final)
	}
}
