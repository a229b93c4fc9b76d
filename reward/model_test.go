package reward_test

import (
	"math/rand/v2"
	"slices"
	"testing"

	"keystone/api"
	"keystone/duty"
	"keystone/reward"
)

// rootOf is a root of one byte again and again.
func rootOf(b byte) api.Root { return api.Root(slices.Repeat([]byte{b}, 32)) }

// blockOf is the block root that a state of stateOf keeps of a slot.
func blockOf(slot uint64) api.Root { return rootOf(byte(slot%16 + 1)) }

// stateOf is a state of so many validators, who are always active, in a slot. The epoch ahead is final.
func stateOf(n int, slot uint64) api.State {
	s := api.State{Slot: slot}
	for m := range s.Mixes {
		for i := range s.Mixes[m] {
			s.Mixes[m][i] = byte(10*m + i)
		}
	}
	for i := range s.BlockRoots {
		s.BlockRoots[i] = blockOf(uint64(i))
	}
	for i := range n {
		s.Validators = append(s.Validators, api.Validator{Key: rootOf(byte(i + 1)), Effective: 32000, Exit: api.FarFuture, Withdraw: api.FarFuture})
		s.Balances = append(s.Balances, 32000)
	}
	now := slot / 4
	s.Finalized.Epoch = now - min(now, 1)
	return s
}

// eleven is a state of eleven validators in the epoch 6, of whom each has the Base 863.
// The epoch 5 has the committees 1 6, 10 8 7, 0 9 5, and 2 3 4.
func eleven() api.State { return stateOf(11, 27) }

// pendingOf is a vote for what is right in a state of stateOf, taken at once, with its committee's bits from a text of 0 and 1.
func pendingOf(slot, index uint64, bits string) api.Pending {
	target := api.Checkpoint{Epoch: slot / 4, Root: blockOf(slot / 4 * 4)}
	p := api.Pending{Data: api.Vote{Slot: slot, Index: index, Block: blockOf(slot), Target: target}, Delay: 1}
	for _, b := range bits {
		p.Bits = append(p.Bits, b == '1')
	}
	return p
}

// taken is a vote that somebody took after so many slots.
func taken(p api.Pending, delay, proposer uint64) api.Pending {
	p.Delay, p.Proposer = delay, proposer
	return p
}

// wrongTarget is a vote for a checkpoint that isn't the state's.
func wrongTarget(p api.Pending) api.Pending {
	p.Data.Target.Root = rootOf(99)
	return p
}

// wrongHead is a vote for a block that isn't the state's.
func wrongHead(p api.Pending) api.Pending {
	p.Data.Block = rootOf(98)
	return p
}

// votesOf is the votes of some validators, and of nobody else, for what is right, in all slots of an epoch up to a state's.
func votesOf(s api.State, epoch uint64, some ...uint64) []api.Pending {
	var l []api.Pending
	for slot := 4 * epoch; slot < 4*epoch+4 && slot < s.Slot; slot++ {
		for index := range duty.Committees(s, epoch) {
			members, _ := duty.Committee(s, slot, index)
			p := pendingOf(slot, index, "")
			for _, m := range members {
				p.Bits = append(p.Bits, slices.Contains(some, m))
			}
			l = append(l, p)
		}
	}
	return l
}

// upTo is the numbers from 0 to n - 1.
func upTo(n uint64) []uint64 {
	var numbers []uint64
	for k := range n {
		numbers = append(numbers, k)
	}
	return numbers
}

// all is one number for each of n validators, other numbers for some of them by their places.
func all(n int, number uint64, but map[int]uint64) []uint64 {
	l := slices.Repeat([]uint64{number}, n)
	for place, other := range but {
		l[place] = other
	}
	return l
}

func expectDeltas(t *testing.T, what string, got reward.Deltas, up, down []uint64) {
	t.Helper()
	if !slices.Equal(got.Up, up) {
		t.Errorf("%s: Up = %v; want %v", what, got.Up, up)
	}
	if !slices.Equal(got.Down, down) {
		t.Errorf("%s: Down = %v; want %v", what, got.Down, down)
	}
}

// The model: chapter 11's words, one validator and one vote after the other, in numbers that may be below 0.

type modelDeltas struct{ up, down []int }

func modelNone(s api.State) modelDeltas {
	return modelDeltas{make([]int, len(s.Validators)), make([]int, len(s.Validators))}
}

func modelActive(v api.Validator, epoch int) bool {
	return v.Active <= uint64(epoch) && uint64(epoch) < v.Exit
}

func modelTotal(s api.State, has func(i int) bool) int {
	sum := 0
	for i, v := range s.Validators {
		if has(i) {
			sum += int(v.Effective)
		}
	}
	return max(sum, 1000)
}

func modelAllActive(s api.State) int {
	return modelTotal(s, func(i int) bool { return modelActive(s.Validators[i], int(s.Slot/4)) })
}

func modelBase(s api.State, i int) int {
	total, root := modelAllActive(s), 0
	for (root+1)*(root+1) <= total {
		root++
	}
	return int(s.Validators[i].Effective) * 64 / root / 4
}

func modelAhead(s api.State) int { return max(int(s.Slot/4)-1, 0) }

func modelEligible(s api.State, i int) bool {
	v, ahead := s.Validators[i], modelAhead(s)
	return modelActive(v, ahead) || v.Slashed && v.Withdraw > uint64(ahead+1)
}

func modelDelay(s api.State) int { return max(modelAhead(s)-int(s.Finalized.Epoch), 0) }

// modelHas tells of each validator if a vote is his too, and counts.
func modelHas(s api.State, p api.Pending) []bool {
	has := make([]bool, len(s.Validators))
	members, errno := duty.Committee(s, p.Data.Slot, p.Data.Index)
	for i, v := range s.Validators {
		place := slices.Index(members, uint64(i))
		has[i] = errno == api.OK && place >= 0 && place < len(p.Bits) && p.Bits[place] && !v.Slashed
	}
	return has
}

// modelVoted tells of each validator if one of some votes is his.
func modelVoted(s api.State, l []api.Pending) []bool {
	voted := make([]bool, len(s.Validators))
	for _, p := range l {
		for i, has := range modelHas(s, p) {
			voted[i] = voted[i] || has
		}
	}
	return voted
}

// modelVotes is the votes of the epoch ahead that are right.
func modelVotes(s api.State, target, head bool) []api.Pending {
	l := s.Previous
	if s.Slot < 4 {
		l = s.Current
	}
	var right []api.Pending
	for _, p := range l {
		first := modelAhead(s) * 4
		isRight := first < int(s.Slot) && int(s.Slot)-first <= 16 && p.Data.Target.Root == s.BlockRoots[first%16]
		if (isRight || !target) && (p.Data.Block == s.BlockRoots[p.Data.Slot%16] || !head) {
			right = append(right, p)
		}
	}
	return right
}

func modelPart(s api.State, l []api.Pending) modelDeltas {
	d, voted := modelNone(s), modelVoted(s, l)
	voters := modelTotal(s, func(i int) bool { return voted[i] })
	for i := range s.Validators {
		base := modelBase(s, i)
		if !modelEligible(s, i) {
			continue
		}
		if !voted[i] {
			d.down[i] = base
		} else if modelDelay(s) > 4 {
			d.up[i] = base
		} else {
			d.up[i] = base * (voters / 1000) / (modelAllActive(s) / 1000)
		}
	}
	return d
}

func modelInclusion(s api.State) modelDeltas {
	d, l := modelNone(s), modelVotes(s, false, false)
	var has [][]bool
	for _, p := range l {
		has = append(has, modelHas(s, p))
	}
	for i := range s.Validators {
		best := -1
		for k, p := range l {
			if has[k][i] && (best < 0 || p.Delay < l[best].Delay) {
				best = k
			}
		}
		if best >= 0 {
			base := modelBase(s, i)
			d.up[l[best].Proposer] += base / 8
			d.up[i] += (base - base/8) / int(l[best].Delay)
		}
	}
	return d
}

func modelLeak(s api.State) modelDeltas {
	d, voted := modelNone(s), modelVoted(s, modelVotes(s, true, false))
	for i, v := range s.Validators {
		if modelDelay(s) <= 4 || !modelEligible(s, i) {
			continue
		}
		d.down[i] = 4*modelBase(s, i) - modelBase(s, i)/8
		if !voted[i] {
			d.down[i] += int(v.Effective) * modelDelay(s) / 65536
		}
	}
	return d
}

func modelAll(s api.State) modelDeltas {
	sum := modelNone(s)
	for _, d := range []modelDeltas{
		modelPart(s, modelVotes(s, false, false)), modelPart(s, modelVotes(s, true, false)), modelPart(s, modelVotes(s, true, true)),
		modelInclusion(s), modelLeak(s),
	} {
		for i := range s.Validators {
			sum.up[i] += d.up[i]
			sum.down[i] += d.down[i]
		}
	}
	return sum
}

func modelBalances(s api.State) []uint64 {
	d, balances := modelAll(s), slices.Clone(s.Balances)
	for i := range balances {
		if s.Slot >= 4 {
			balances[i] = uint64(max(int(balances[i])+d.up[i]-d.down[i], 0))
		}
	}
	return balances
}

func unsigned(l []int) []uint64 {
	out := make([]uint64, len(l))
	for i, n := range l {
		out[i] = uint64(n)
	}
	return out
}

func expectModel(t *testing.T, what string, got reward.Deltas, want modelDeltas) {
	t.Helper()
	expectDeltas(t, what, got, unsigned(want.up), unsigned(want.down))
}

// drawn is a valid state that is drawn by lot: validators that come, go and are slashed, and votes, right and wrong, soon and late.
func drawn(lot *rand.Rand) api.State {
	s := stateOf(1+lot.IntN(32), lot.Uint64N(60))
	if lot.IntN(5) == 0 {
		s.Slot += lot.Uint64N(1 << 20)
	}
	now := s.Slot / 4
	even := lot.IntN(2) == 0
	for i := range s.Validators {
		drawValidator(lot, &s.Validators[i], now, even)
		s.Balances[i] = lot.Uint64N(1 << (1 + lot.IntN(40)))
	}
	s.Finalized.Epoch = now - min(now, lot.Uint64N(12))
	if lot.IntN(8) == 0 {
		s.Finalized.Epoch = lot.Uint64N(now + 1)
	}
	s.Current = drawnVotes(lot, s, now)
	if now > 0 {
		s.Previous = drawnVotes(lot, s, now-1)
	}
	return s
}

// drawValidator makes a validator one of any balance (of the greatest, if all are even), who may come, go, or be slashed about now.
func drawValidator(lot *rand.Rand, v *api.Validator, now uint64, even bool) {
	v.Slashed = lot.IntN(5) == 0
	if !even {
		v.Effective = 1000 * lot.Uint64N(33)
	}
	if lot.IntN(6) == 0 {
		v.Active = now - min(now, 2) + lot.Uint64N(4)
	}
	if v.Slashed || lot.IntN(6) == 0 {
		v.Exit = now - min(now, 3) + lot.Uint64N(6)
		v.Withdraw = now - min(now, 2) + lot.Uint64N(5)
	}
}

// drawnVotes is votes of an epoch, most of them right, of most members.
func drawnVotes(lot *rand.Rand, s api.State, epoch uint64) []api.Pending {
	var l []api.Pending
	for range lot.IntN(20) {
		slot := 4*epoch + lot.Uint64N(4)
		if slot >= s.Slot {
			continue
		}
		index := lot.Uint64N(duty.Committees(s, epoch))
		members, _ := duty.Committee(s, slot, index)
		p := taken(pendingOf(slot, index, ""), 1+lot.Uint64N(8), lot.Uint64N(uint64(len(s.Validators))))
		for range members {
			p.Bits = append(p.Bits, lot.IntN(5) > 0)
		}
		if lot.IntN(6) == 0 {
			p = wrongTarget(p)
		}
		if lot.IntN(4) == 0 {
			p = wrongHead(p)
		}
		l = append(l, p)
	}
	return l
}
