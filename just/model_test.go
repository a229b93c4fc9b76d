package just_test

import (
	"math/rand/v2"
	"reflect"
	"slices"
	"testing"

	"keystone/api"
	"keystone/duty"
)

// rootOf is a root of one byte again and again.
func rootOf(b byte) api.Root { return api.Root(slices.Repeat([]byte{b}, 32)) }

// blockOf is the block root that a state of stateOf keeps of a slot.
func blockOf(slot uint64) api.Root { return rootOf(byte(slot%16 + 1)) }

// stateOf is a state of so many validators, who are always active, in a slot.
func stateOf(n int, slot uint64) api.State {
	s := api.State{Slot: slot}
	for m := range s.Mixes {
		for i := range s.Mixes[m] {
			s.Mixes[m][i] = byte(10*m + i)
		}
	}
	for i := range s.BlockRoots {
		s.BlockRoots[i] = blockOf(uint64(i))
	}
	for i := range n {
		s.Validators = append(s.Validators, api.Validator{Key: rootOf(byte(i + 1)), Effective: 32000, Exit: api.FarFuture, Withdraw: api.FarFuture})
		s.Balances = append(s.Balances, 32000)
	}
	return s
}

// check is a checkpoint with the block that a state of stateOf keeps.
func check(epoch uint64) api.Checkpoint {
	return api.Checkpoint{Epoch: epoch, Root: blockOf(4 * epoch)}
}

// pendingOf is a vote for what is right in a state of stateOf, with its committee's bits from a text of 0 and 1.
func pendingOf(slot, index uint64, bits string) api.Pending {
	p := api.Pending{Data: api.Vote{Slot: slot, Index: index, Block: blockOf(slot), Target: check(slot / 4)}, Delay: 1}
	for _, b := range bits {
		p.Bits = append(p.Bits, b == '1')
	}
	return p
}

// votesOf is the votes of some validators, and of nobody else, for a right checkpoint, in all slots up to a state's.
func votesOf(s api.State, epoch uint64, some ...uint64) []api.Pending {
	var l []api.Pending
	for slot := 4 * epoch; slot < 4*epoch+4 && slot < s.Slot; slot++ {
		for index := range duty.Committees(s, epoch) {
			members, _ := duty.Committee(s, slot, index)
			p := pendingOf(slot, index, "")
			for _, m := range members {
				p.Bits = append(p.Bits, slices.Contains(some, m))
			}
			l = append(l, p)
		}
	}
	return l
}

// upTo is the numbers from 0 to n - 1.
func upTo(n uint64) []uint64 {
	var numbers []uint64
	for k := range n {
		numbers = append(numbers, k)
	}
	return numbers
}

// same tells if two values are the same; lists without elements are.
func same(a, b api.State) bool { return reflect.DeepEqual(listed(a), listed(b)) }

// listed is a state without empty lists that aren't nil.
func listed(s api.State) api.State {
	s.Previous, s.Current = listedPending(s.Previous), listedPending(s.Current)
	return s
}

func listedPending(l []api.Pending) []api.Pending {
	var out []api.Pending
	for _, p := range l {
		if len(p.Bits) == 0 {
			p.Bits = nil
		}
		out = append(out, p)
	}
	return out
}

func expectPending(t *testing.T, what string, got, want []api.Pending) {
	t.Helper()
	if !reflect.DeepEqual(listedPending(got), listedPending(want)) {
		t.Errorf("%s = %v; want %v", what, got, want)
	}
}

// The model: chapter 10's words, one validator and one vote after the other.

func modelRoot(s api.State, epoch uint64) (api.Root, bool) {
	slot := epoch * 4
	if slot >= s.Slot || s.Slot-slot > 16 {
		return api.Root{}, false
	}
	return s.BlockRoots[slot%16], true
}

func modelSources(s api.State, epoch uint64) []api.Pending {
	now := s.Slot / 4
	if epoch == now {
		return s.Current
	}
	if now > 0 && epoch == now-1 {
		return s.Previous
	}
	return nil
}

func modelTargets(s api.State, epoch uint64) []api.Pending {
	var l []api.Pending
	for _, p := range modelSources(s, epoch) {
		if root, ok := modelRoot(s, epoch); ok && p.Data.Target.Root == root {
			l = append(l, p)
		}
	}
	return l
}

func modelHeads(s api.State, epoch uint64) []api.Pending {
	var l []api.Pending
	for _, p := range modelTargets(s, epoch) {
		if p.Data.Block == s.BlockRoots[p.Data.Slot%16] {
			l = append(l, p)
		}
	}
	return l
}

func modelVoters(s api.State, l []api.Pending) []uint64 {
	var voters []uint64
	for i := range s.Validators {
		if !s.Validators[i].Slashed && slices.ContainsFunc(l, func(p api.Pending) bool { return modelHas(s, p, uint64(i)) }) {
			voters = append(voters, uint64(i))
		}
	}
	return voters
}

// modelHas tells if a vote is a validator's too.
func modelHas(s api.State, p api.Pending, i uint64) bool {
	members, errno := duty.Committee(s, p.Data.Slot, p.Data.Index)
	place := slices.Index(members, i)
	return errno == api.OK && place >= 0 && place < len(p.Bits) && p.Bits[place]
}

func modelEnough(s api.State, some []uint64) bool {
	all, part := 0, 0
	for _, v := range s.Validators {
		if v.Active <= s.Slot/4 && s.Slot/4 < v.Exit {
			all += int(v.Effective)
		}
	}
	for _, i := range some {
		if i < uint64(len(s.Validators)) {
			part += int(s.Validators[i].Effective)
		}
	}
	return max(part, 1000)*3 >= max(all, 1000)*2
}

// modelRules are the ways to become final, the stronger behind: which bits must be set, and which checkpoint is how far back.
var modelRules = []struct {
	bits    []int
	current bool
	back    uint64
}{
	{[]int{1, 2, 3}, false, 3},
	{[]int{1, 2}, false, 2},
	{[]int{0, 1, 2}, true, 2},
	{[]int{0, 1}, true, 1},
}

func modelProcess(s api.State) api.State {
	now := s.Slot / 4
	if now < 2 {
		return s
	}
	u := s
	u.PreviousJust = s.CurrentJust
	u.Bits[0] = false
	for i := 1; i < 4; i++ {
		u.Bits[i] = s.Bits[i-1]
	}
	for place := 1; place >= 0; place-- {
		epoch := now - uint64(place)
		if root, ok := modelRoot(s, epoch); ok && modelEnough(s, modelVoters(s, modelTargets(s, epoch))) {
			u.CurrentJust, u.Bits[place] = api.Checkpoint{Epoch: epoch, Root: root}, true
		}
	}
	for _, rule := range modelRules {
		from := s.PreviousJust
		if rule.current {
			from = s.CurrentJust
		}
		isUnset := func(i int) bool { return !u.Bits[i] }
		if !slices.ContainsFunc(rule.bits, isUnset) && from.Epoch+rule.back == now {
			u.Finalized = from
		}
	}
	return u
}

// drawn is a valid state that is drawn by lot: validators that come and go, and votes, right and wrong.
func drawn(lot *rand.Rand) api.State {
	s := stateOf(1+lot.IntN(32), lot.Uint64N(40))
	now := s.Slot / 4
	even := lot.IntN(2) == 0 // all of one weight: sums hit two thirds exactly
	for i := range s.Validators {
		v := &s.Validators[i]
		v.Slashed = lot.IntN(8) == 0
		if !even {
			v.Effective = 1000 * lot.Uint64N(33)
		}
		if lot.IntN(6) == 0 {
			v.Active = lot.Uint64N(now + 2)
		}
		if lot.IntN(6) == 0 {
			v.Exit = lot.Uint64N(now + 3)
		}
	}
	for i := range s.Bits {
		s.Bits[i] = lot.IntN(3) > 0
	}
	s.PreviousJust, s.CurrentJust, s.Finalized = drawnCheck(lot, now), drawnCheck(lot, now), drawnCheck(lot, now)
	s.Current = drawnVotes(lot, s, now)
	if now > 0 {
		s.Previous = drawnVotes(lot, s, now-1)
	}
	return s
}

// drawnCheck is a checkpoint a few epochs back.
func drawnCheck(lot *rand.Rand, now uint64) api.Checkpoint {
	return api.Checkpoint{Epoch: now - min(now, lot.Uint64N(5)), Root: rootOf(byte(100 + lot.IntN(100)))}
}

// drawnVotes is votes of an epoch, most of them right, of most members.
func drawnVotes(lot *rand.Rand, s api.State, epoch uint64) []api.Pending {
	var l []api.Pending
	for range lot.IntN(13) {
		slot := 4*epoch + lot.Uint64N(4)
		if slot >= s.Slot {
			continue
		}
		index := lot.Uint64N(duty.Committees(s, epoch))
		members, _ := duty.Committee(s, slot, index)
		p := pendingOf(slot, index, "")
		for range members {
			p.Bits = append(p.Bits, lot.IntN(5) > 0)
		}
		if lot.IntN(10) == 0 {
			p.Data.Target.Root = blockOf(4*epoch + 1)
		}
		if lot.IntN(4) == 0 {
			p.Data.Block = blockOf(slot + 1)
		}
		l = append(l, p)
	}
	return l
}
