package duty_test

import (
	"math"
	"slices"
	"testing"

	"keystone/api"
	"keystone/duty"
)

// P9.1: Epoch, Now and Before, with answers written out.
func TestEpoch(t *testing.T) {
	tests := []struct{ slot, epoch, before uint64 }{
		{0, 0, 0}, {1, 0, 0}, {3, 0, 0}, {4, 1, 0}, {7, 1, 0}, {8, 2, 1}, {9, 2, 1}, {12, 3, 2}, {1<<32 - 1, 1<<30 - 1, 1<<30 - 2}, {1 << 32, 1 << 30, 1<<30 - 1},
		{math.MaxUint64 - 4, 1<<62 - 2, 1<<62 - 3}, {math.MaxUint64 - 3, 1<<62 - 1, 1<<62 - 2}, {math.MaxUint64, 1<<62 - 1, 1<<62 - 2},
	}
	for _, x := range tests {
		if got := duty.Epoch(x.slot); got != x.epoch {
			t.Errorf("Epoch(%d) = %d; want %d", x.slot, got, x.epoch)
		}
		if got := duty.Now(api.State{Slot: x.slot}); got != x.epoch {
			t.Errorf("slot %d: Now = %d; want %d", x.slot, got, x.epoch)
		}
		if got := duty.Before(api.State{Slot: x.slot}); got != x.before {
			t.Errorf("slot %d: Before = %d; want %d", x.slot, got, x.before)
		}
	}
}

// P9.1: Start, which is modulo 2^64.
func TestStart(t *testing.T) {
	tests := []struct{ epoch, slot uint64 }{
		{0, 0}, {1, 4}, {2, 8}, {25, 100}, {1 << 30, 1 << 32}, {1<<62 - 1, math.MaxUint64 - 3},
		{1 << 62, 0}, {1<<62 + 3, 12}, {1 << 63, 0}, {math.MaxUint64 - 1, math.MaxUint64 - 7}, {math.MaxUint64, math.MaxUint64 - 3},
	}
	for _, x := range tests {
		if got := duty.Start(x.epoch); got != x.slot {
			t.Errorf("Start(%d) = %d; want %d", x.epoch, got, x.slot)
		}
	}
}

// P9.1: who is active: from Active on, up to ahead of Exit.
func TestIsActive(t *testing.T) {
	tests := []struct {
		active, exit, epoch uint64
		want                bool
	}{
		{0, api.FarFuture, 0, true}, {3, 5, 2, false}, {3, 5, 3, true}, {3, 5, 4, true}, {3, 5, 5, false}, {3, 5, 6, false},
		{3, 3, 3, false}, {3, 4, 3, true}, {5, 3, 4, false}, {0, 0, 0, false}, {0, 1, 0, true}, {0, 1, 1, false},
		{api.FarFuture, api.FarFuture, api.FarFuture - 1, false}, {api.FarFuture, api.FarFuture, api.FarFuture, false},
		{0, api.FarFuture, api.FarFuture - 1, true}, {0, api.FarFuture, api.FarFuture, false}, {api.FarFuture - 1, api.FarFuture, api.FarFuture - 1, true},
	}
	for _, x := range tests {
		v := api.Validator{Active: x.active, Exit: x.exit}
		if got := duty.IsActive(v, x.epoch); got != x.want {
			t.Errorf("active %d, exit %d: IsActive(%d) = %v", x.active, x.exit, x.epoch, got)
		}
		v = api.Validator{Active: x.active, Exit: x.exit, Key: rootOf(3), Cred: rootOf(4), Effective: 7, Slashed: true, Eligible: api.FarFuture, Withdraw: 1}
		if got := duty.IsActive(v, x.epoch); got != x.want {
			t.Errorf("active %d, exit %d: IsActive(%d) hangs on more than these", x.active, x.exit, x.epoch)
		}
	}
}

// P9.1: Active, with answers written out.
func TestActiveByHand(t *testing.T) {
	tests := []struct {
		epoch uint64
		want  []uint64
	}{
		{0, []uint64{5, 10, 15, 20}},
		{1, []uint64{1, 5, 6, 10, 11, 15, 16, 20, 21}},
		{2, []uint64{1, 2, 5, 6, 7, 10, 11, 12, 15, 16, 17, 20, 21, 22}},
		{4, []uint64{1, 2, 4, 5, 6, 7, 8, 9, 10, 11, 12, 13, 14, 15, 16, 17, 18, 19, 20, 21, 22, 23}},
		{10, []uint64{1, 2, 4, 5, 7, 8, 10, 11, 12, 13, 14, 15, 16, 17, 18, 19, 20, 21, 22, 23}},
		{api.FarFuture - 1, []uint64{1, 2, 4, 5, 7, 8, 10, 11, 13, 14, 16, 17, 19, 20, 22, 23}},
		{api.FarFuture, nil},
	}
	for _, x := range tests {
		if got := duty.Active(comeAndGo(77), x.epoch); !slices.Equal(got, x.want) {
			t.Errorf("Active(%d) = %v; want %v", x.epoch, got, x.want)
		}
	}
}

// P9.1: Active of many epochs, of a state whose lists aren't of one length, and of nobody.
func TestActive(t *testing.T) {
	s := comeAndGo(0)
	s.Balances = nil
	for _, epoch := range append(edges(), upTo(30)...) {
		if got, want := duty.Active(s, epoch), modelActive(s, epoch); !slices.Equal(got, want) {
			t.Errorf("Active(%d) = %v; want %v", epoch, got, want)
		}
		if got := duty.Active(api.State{Balances: []uint64{1, 2}}, epoch); len(got) != 0 {
			t.Errorf("Active(%d) of no validators = %v", epoch, got)
		}
	}
}

// P9.1: how many committees a slot has, by the active ones' number, of whom there are 0 up to more than a valid state has.
func TestCommittees(t *testing.T) {
	for n := range 200 {
		want := uint64(2)
		if n < 16 {
			want = 1
		}
		if got := duty.Committees(stateOf(n, 8), 2); got != want {
			t.Errorf("%d validators: Committees = %d; want %d", n, got, want)
		}
	}
}

// P9.1: those who aren't active in the epoch that is asked for make no committees, whatever the state's own epoch.
func TestCommitteesOfEpoch(t *testing.T) {
	s := stateOf(40, 12)
	for i := range s.Validators {
		s.Validators[i].Active = uint64(i / 5) // five more an epoch
	}
	for epoch, want := range []uint64{1, 1, 1, 2, 2, 2, 2, 2, 2} {
		if got := duty.Committees(s, uint64(epoch)); got != want {
			t.Errorf("Committees(%d) = %d; want %d", epoch, got, want)
		}
	}
	if got := duty.Committees(s, api.FarFuture); got != 1 {
		t.Errorf("Committees(FarFuture) = %d; want 1", got)
	}
}

// P9.4: Total: balances that count, as often as they stand there, and an increment at least.
func TestTotal(t *testing.T) {
	s := stateOf(6, 0)
	for i, e := range []uint64{999, 1, 1000, 32000, 0, 1 << 32} {
		s.Validators[i].Effective = e
	}
	tests := []struct {
		some []uint64
		want uint64
	}{
		{nil, 1000}, {[]uint64{}, 1000}, {[]uint64{4}, 1000}, {[]uint64{0}, 1000}, {[]uint64{1, 0}, 1000}, {[]uint64{0, 1, 1}, 1001},
		{[]uint64{2}, 1000}, {[]uint64{2, 1}, 1001}, {[]uint64{2, 2}, 2000}, {[]uint64{3, 2, 4, 2}, 34000}, {[]uint64{5}, 1 << 32},
		{[]uint64{5, 3, 5, 0}, 2<<32 + 32999}, {[]uint64{6}, 1000}, {[]uint64{3, 6, 3, math.MaxUint64}, 64000}, {[]uint64{math.MaxUint64, 1 << 63, 1}, 1000},
		{slices.Repeat([]uint64{5}, 1<<16), 1 << 48},
	}
	for _, x := range tests {
		if got := duty.Total(s, x.some); got != x.want {
			t.Errorf("Total of %v = %d; want %d", x.some[:min(len(x.some), 8)], got, x.want)
		}
	}
	if got := duty.Total(api.State{Balances: []uint64{5000}}, []uint64{0}); got != 1000 {
		t.Errorf("Total without validators = %d; want 1000", got)
	}
}

// P9.4: of a validator nothing but the effective balance counts, nor whether it is active.
func TestTotalEffectiveAlone(t *testing.T) {
	s := stateOf(3, 9)
	for i := range s.Validators {
		v := &s.Validators[i]
		v.Effective, v.Slashed, v.Active, v.Exit, v.Withdraw = uint64(2000*(i+1)), true, api.FarFuture, 1, 2
	}
	s.Balances = nil
	if got := duty.Total(s, []uint64{0, 1, 2}); got != 12000 {
		t.Errorf("Total = %d; want 12000", got)
	}
	if got := duty.Total(stateOf(1, 9), []uint64{0}); got != 32000 {
		t.Errorf("Total of one = %d; want 32000", got)
	}
}

// rooted is a state with roots that all differ.
func rooted(slot uint64) api.State {
	s := api.State{Slot: slot}
	for i := range s.BlockRoots {
		s.BlockRoots[i], s.StateRoots[i] = rootOf(byte(i+1)), rootOf(byte(i+101))
	}
	return s
}

func expectBlockAt(t *testing.T, s api.State, slot uint64, want api.Root, errno api.Errno) {
	t.Helper()
	if got, e := duty.BlockAt(s, slot); got != want || e != errno {
		t.Errorf("slot %d: BlockAt(%d) = %x, %d; want %x, %d", s.Slot, slot, got, e, want, errno)
	}
}

// P9.4: BlockAt, with answers written out: the sixteen slots ahead of the state's, and no more.
func TestBlockAtByHand(t *testing.T) {
	expectBlockAt(t, rooted(0), 0, api.Root{}, api.ErrRange)
	expectBlockAt(t, rooted(1), 0, rootOf(1), api.OK)
	expectBlockAt(t, rooted(16), 0, rootOf(1), api.OK)
	expectBlockAt(t, rooted(16), 15, rootOf(16), api.OK)
	expectBlockAt(t, rooted(16), 16, api.Root{}, api.ErrRange)
	expectBlockAt(t, rooted(17), 0, api.Root{}, api.ErrRange)
	expectBlockAt(t, rooted(17), 1, rootOf(2), api.OK)
	expectBlockAt(t, rooted(17), 16, rootOf(1), api.OK)
	last := rooted(math.MaxUint64)
	expectBlockAt(t, last, math.MaxUint64, api.Root{}, api.ErrRange)
	expectBlockAt(t, last, math.MaxUint64-1, rootOf(15), api.OK)
	expectBlockAt(t, last, math.MaxUint64-16, rootOf(16), api.OK)
	expectBlockAt(t, last, math.MaxUint64-17, api.Root{}, api.ErrRange)
	expectBlockAt(t, last, 0, api.Root{}, api.ErrRange)
	expectBlockAt(t, rooted(3), math.MaxUint64, api.Root{}, api.ErrRange) // not 16 ahead of 3 by wrapping
	expectBlockAt(t, rooted(3), math.MaxUint64-5, api.Root{}, api.ErrRange)
}

// P9.4: BlockAt of each slot around a state's.
func TestBlockAt(t *testing.T) {
	for at := range uint64(60) {
		for slot := range uint64(80) {
			if slot < at && at <= slot+16 {
				expectBlockAt(t, rooted(at), slot, rootOf(byte(slot%16+1)), api.OK)
			} else {
				expectBlockAt(t, rooted(at), slot, api.Root{}, api.ErrRange)
			}
		}
	}
}
