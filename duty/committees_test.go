package duty_test

import (
	"math"
	"slices"
	"testing"

	"keystone/api"
	"keystone/duty"
)

func expectList(t *testing.T, what string, got []uint64, e api.Errno, want []uint64, errno api.Errno) {
	t.Helper()
	if !slices.Equal(got, want) || e != errno {
		t.Errorf("%s = %v, %d; want %v, %d", what, got, e, want, errno)
	}
}

// expectCommittee asks both ways: of the state, and of its table.
func expectCommittee(t *testing.T, s api.State, slot, index uint64, want []uint64, errno api.Errno) {
	t.Helper()
	got, e := duty.Committee(s, slot, index)
	expectList(t, "Committee", got, e, want, errno)
	got, e = duty.Make(s, slot/4).Of(slot, index)
	expectList(t, "Of", got, e, want, errno)
}

// P9.2: committees, with answers written out.
func TestCommitteeByHand(t *testing.T) {
	tests := []struct {
		n           int
		slot, index uint64
		want        []uint64
	}{
		{5, 0, 0, []uint64{1}}, {5, 1, 0, []uint64{0}}, {5, 2, 0, []uint64{4}}, {5, 3, 0, []uint64{2, 3}},
		{11, 20, 0, []uint64{1, 6}}, {11, 21, 0, []uint64{10, 8, 7}}, {11, 22, 0, []uint64{0, 9, 5}}, {11, 23, 0, []uint64{2, 3, 4}},
		{16, 8, 0, []uint64{15, 0}}, {16, 8, 1, []uint64{13, 3}}, {16, 9, 0, []uint64{9, 6}}, {16, 9, 1, []uint64{12, 4}},
		{16, 10, 0, []uint64{1, 8}}, {16, 10, 1, []uint64{11, 5}}, {16, 11, 0, []uint64{14, 10}}, {16, 11, 1, []uint64{7, 2}},
		{19, 4294967292, 0, []uint64{12, 10}}, {19, 4294967292, 1, []uint64{15, 9}}, {19, 4294967293, 0, []uint64{6, 13, 1}}, {19, 4294967293, 1, []uint64{7, 18}},
		{19, 4294967294, 0, []uint64{11, 4}}, {19, 4294967294, 1, []uint64{2, 5, 0}}, {19, 4294967295, 0, []uint64{16, 17}}, {19, 4294967295, 1, []uint64{14, 3, 8}},
		{32, 100, 0, []uint64{20, 6, 23, 15}}, {32, 100, 1, []uint64{31, 18, 27, 16}}, {32, 101, 0, []uint64{4, 9, 11, 12}}, {32, 103, 1, []uint64{28, 24, 19, 8}},
	}
	for _, x := range tests {
		expectCommittee(t, stateOf(x.n, 7), x.slot, x.index, x.want, api.OK)
	}
}

// P9.2: committees of a state whose validators come and go, with answers written out: of the epoch that is asked for, not of the state's own.
func TestCommitteeOfSomeByHand(t *testing.T) {
	for _, at := range []uint64{0, 19, 1 << 40} {
		expectCommittee(t, comeAndGo(at), 0, 0, []uint64{5}, api.OK)
		expectCommittee(t, comeAndGo(at), 5, 0, []uint64{5, 1}, api.OK)
		expectCommittee(t, comeAndGo(at), 10, 0, []uint64{21, 10, 16}, api.OK)
		expectCommittee(t, comeAndGo(at), 19, 0, []uint64{13, 16, 11}, api.OK)
		expectCommittee(t, comeAndGo(at), 19, 1, []uint64{5, 19, 21}, api.OK)
		expectCommittee(t, comeAndGo(at), 40, 0, []uint64{17, 18}, api.OK)
		expectCommittee(t, comeAndGo(at), 40, 1, []uint64{20, 23, 21}, api.OK)
	}
}

// P9.2, P10: each committee of an epoch is what the chapter's words say, place by place, though the whole list is shuffled at once.
func TestCommitteeOfEach(t *testing.T) {
	for _, epoch := range []uint64{0, 1, 2, 6, 9, 1 << 30, 1<<62 - 1} {
		for n := range 40 {
			expectEpoch(t, stateOf(n, 9), epoch)
		}
		expectEpoch(t, comeAndGo(3), epoch)
	}
	for _, n := range []int{255, 256, 257, 1000, 4099} {
		expectEpoch(t, stateOf(n, 9), 3)
	}
}

func expectEpoch(t *testing.T, s api.State, epoch uint64) {
	t.Helper()
	for slot := 4 * epoch; slot-4*epoch < 4; slot++ {
		for index := range modelCount(len(modelActive(s, epoch))) {
			expectCommittee(t, s, slot, index, modelCommittee(s, slot, index), api.OK)
		}
	}
}

// P9.2: one table has all committees of its epoch, asked for in any order, again and again.
func TestTableOfAll(t *testing.T) {
	s := stateOf(21, 40)
	table := duty.Make(s, 9)
	for _, slot := range []uint64{39, 36, 38, 37, 36, 39} {
		for _, index := range []uint64{1, 0, 1} {
			got, e := table.Of(slot, index)
			expectList(t, "Of", got, e, modelCommittee(s, slot, index), api.OK)
		}
	}
}

// P9.2: ErrRange of a slot that isn't of the table's epoch, its neighbours among them, and those that a product that wraps would take.
func TestSlotOfOtherEpoch(t *testing.T) {
	for _, n := range []int{0, 7, 20} {
		for _, epoch := range edges() {
			table := duty.Make(stateOf(n, 9), epoch)
			for _, slot := range append(edges(), upTo(24)...) {
				got, e := table.Of(slot, 0)
				if slot/4 != epoch {
					expectList(t, "Of another epoch's slot", got, e, nil, api.ErrRange)
				} else if e != api.OK {
					t.Errorf("%d validators, epoch %d: Of(%d, 0): %d", n, epoch, slot, e)
				}
			}
		}
	}
}

// P9.2: ErrRange of an index that isn't below Committees.
func TestIndexOutside(t *testing.T) {
	for _, n := range []int{0, 1, 15, 16, 33} {
		for _, index := range append(edges(), 0, 1, 2, 3, 4, 8, 1<<61, 1<<62, math.MaxUint64) {
			for slot := uint64(8); slot < 12; slot++ {
				if index >= modelCount(n) {
					expectCommittee(t, stateOf(n, 9), slot, index, nil, api.ErrRange)
				}
			}
		}
	}
}

// P9.2: of nobody there are committees, without members.
func TestCommitteeOfNobody(t *testing.T) {
	for slot := range uint64(9) {
		expectCommittee(t, stateOf(0, 2), slot, 0, nil, api.OK)
		expectCommittee(t, stateOf(0, 2), slot, 1, nil, api.ErrRange)
	}
}

// R7: a nil table, and one that Make didn't make, which holds no committee.
func TestTableOfNothing(t *testing.T) {
	var none *duty.Table
	for _, slot := range edges() {
		for _, index := range []uint64{0, 1, 2, math.MaxUint64} {
			got, e := none.Of(slot, index)
			expectList(t, "Of a nil table", got, e, nil, api.ErrNil)
			got, e = new(duty.Table).Of(slot, index)
			expectList(t, "Of a new table", got, e, nil, api.ErrRange)
		}
	}
}

// P9.5: the committees of an epoch share the active ones: each is in just one; and no two differ by more than one in size.
func TestShared(t *testing.T) {
	for n := range 70 {
		for _, epoch := range []uint64{0, 3, 1 << 31} {
			expectShared(t, stateOf(n, 5), epoch)
		}
	}
	for epoch := range uint64(25) {
		expectShared(t, comeAndGo(5), epoch)
	}
	expectShared(t, stateOf(3001, 5), 2)
}

func expectShared(t *testing.T, s api.State, epoch uint64) {
	t.Helper()
	var everyone []uint64
	least, most := math.MaxInt, 0
	for slot := 4 * epoch; slot < 4*epoch+4; slot++ {
		for index := range duty.Committees(s, epoch) {
			members, e := duty.Committee(s, slot, index)
			if e != api.OK {
				t.Errorf("Committee(%d, %d): %d", slot, index, e)
			}
			everyone = append(everyone, members...)
			least, most = min(least, len(members)), max(most, len(members))
		}
	}
	slices.Sort(everyone)
	if active := duty.Active(s, epoch); !slices.Equal(everyone, active) {
		t.Errorf("epoch %d: the committees have %v of %v", epoch, everyone, active)
	}
	if most-least > 1 {
		t.Errorf("epoch %d: committees of %d up to %d", epoch, least, most)
	}
}

// P9.2: of a state nothing counts but who is active, and the mix that the seed takes.
func TestCommitteeHangsOn(t *testing.T) {
	want := modelCommittee(stateOf(20, 9), 22, 1)
	s := stateOf(20, 9)
	s.Slot, s.Balances, s.BlockRoots[3], s.CurrentJust.Epoch = 999, nil, rootOf(9), 4
	for i := range s.Validators {
		v := &s.Validators[i]
		v.Key, v.Effective, v.Slashed = rootOf(7), 0, true
	}
	for m := range s.Mixes {
		if m != (5+8-2)%8 {
			s.Mixes[m] = rootOf(200)
		}
	}
	expectCommittee(t, s, 22, 1, want, api.OK)
	s.Mixes[(5+8-2)%8] = rootOf(200)
	got, _ := duty.Committee(s, 22, 1)
	if slices.Equal(got, want) {
		t.Error("the mix of the epoch doesn't count")
	}
}

// P1: of more active ones than shuffle puts in an order there is no committee; of as many as it does there is.
func TestTooMany(t *testing.T) {
	s := api.State{Validators: make([]api.Validator, 1<<20+1)}
	for i := range s.Validators {
		s.Validators[i].Exit = 2
	}
	expectCommittee(t, s, 5, 1, nil, api.ErrRange)
	expectCommittee(t, s, 8, 0, nil, api.OK) // all are gone
	_, e := duty.Who(s, api.Vote{Slot: 5}, nil)
	if n := duty.Committees(s, 1); e != api.ErrRange || n != 2 {
		t.Errorf("of too many: Who %d, Committees %d", e, n)
	}
	s.Validators = s.Validators[1:]
	got, e := duty.Committee(s, 7, 1)
	if e != api.OK || len(got) != 1<<17 {
		t.Errorf("of as many as may be: %d members, %d", len(got), e)
	}
}
