package registry_test

import (
	"math/rand/v2"
	"reflect"
	"slices"
	"testing"

	"keystone/api"
)

// rootOf is a root of one byte again and again.
func rootOf(b byte) api.Root { return api.Root(slices.Repeat([]byte{b}, 32)) }

// stateOf is a state of so many validators, who are always active, in a slot.
func stateOf(n int, slot uint64) api.State {
	s := api.State{Slot: slot}
	for i := range n {
		s.Validators = append(s.Validators, api.Validator{Key: rootOf(byte(i + 1)), Cred: rootOf(99), Effective: 32000, Exit: api.FarFuture, Withdraw: api.FarFuture})
		s.Balances = append(s.Balances, 32000)
	}
	return s
}

// leaving is a validator with an exit that is set.
func leaving(v api.Validator, exit, withdraw uint64) api.Validator {
	v.Exit, v.Withdraw = exit, withdraw
	return v
}

// waiting is a validator who isn't active yet, eligible from an epoch on.
func waiting(v api.Validator, eligible uint64) api.Validator {
	v.Eligible, v.Active = eligible, api.FarFuture
	return v
}

// behind is a copy of a state, with lists of its own, in which something was changed.
func behind(s api.State, change func(u *api.State)) api.State {
	s.Validators, s.Balances = slices.Clone(s.Validators), slices.Clone(s.Balances)
	s.EthVotes, s.Previous, s.Current = slices.Clone(s.EthVotes), slices.Clone(s.Previous), slices.Clone(s.Current)
	change(&s)
	return s
}

func same(s api.State) api.State { return behind(s, func(*api.State) {}) }

// expectState: the whole of a state; what differs is told by its places.
func expectState(t *testing.T, what string, got, want api.State) {
	t.Helper()
	if reflect.DeepEqual(got, want) {
		return
	}
	t.Errorf("%s: slot %d, %d validators: another state", what, want.Slot, len(want.Validators))
	for i := range min(len(got.Validators), len(want.Validators)) {
		if g, w := got.Validators[i], want.Validators[i]; g != w {
			t.Errorf("validator %d: %+v; want %+v", i, g, w)
		}
	}
	if !slices.Equal(got.Balances, want.Balances) {
		t.Errorf("Balances %v; want %v", got.Balances, want.Balances)
	}
	if got.Fines != want.Fines {
		t.Errorf("Fines %v; want %v", got.Fines, want.Fines)
	}
}

// The model: chapter 12's words, one validator after the other, by a state that is changed in place, in numbers that may be below 0.

func modelActive(u *api.State) int {
	active := 0
	for _, v := range u.Validators {
		if v.Active <= u.Slot/4 && u.Slot/4 < v.Exit {
			active++
		}
	}
	return active
}

func modelChurn(u *api.State) int { return max(modelActive(u)/8, 2) }

func modelLeave(u *api.State, i int) {
	if u.Validators[i].Exit != api.FarFuture {
		return
	}
	exits := []uint64{u.Slot/4 + 5}
	for _, v := range u.Validators {
		if v.Exit != api.FarFuture {
			exits = append(exits, v.Exit)
		}
	}
	e, have := slices.Max(exits), 0
	for _, v := range u.Validators {
		if v.Exit == e {
			have++
		}
	}
	if have >= modelChurn(u) {
		e++
	}
	u.Validators[i].Exit, u.Validators[i].Withdraw = e, e+8
}

func modelMove(u *api.State, i, by int) {
	u.Balances[i] = uint64(max(int(u.Balances[i])+by, 0))
}

func modelSlash(u *api.State, i, proposer, teller int) {
	modelLeave(u, i)
	v := &u.Validators[i]
	v.Slashed = true
	if v.Withdraw < u.Slot/4+8 {
		v.Withdraw = u.Slot/4 + 8
	}
	u.Fines[u.Slot/4%8] += v.Effective
	effective := int(v.Effective)
	modelMove(u, i, -(effective / 64))
	w := effective / 512
	q := w / 8
	modelMove(u, proposer, q)
	modelMove(u, teller, w-q)
}

func modelProcess(u *api.State) {
	now := u.Slot / 4
	for i := range u.Validators {
		v := &u.Validators[i]
		if v.Eligible == api.FarFuture && v.Effective == 32000 {
			v.Eligible = now + 1
		}
		if v.Active <= now && now < v.Exit && v.Effective <= 16000 {
			modelLeave(u, i)
		}
	}
	for range modelChurn(u) {
		first := -1
		for i, v := range u.Validators {
			waits := v.Eligible <= u.Finalized.Epoch && v.Active == api.FarFuture
			if waits && (first < 0 || v.Eligible < u.Validators[first].Eligible) {
				first = i
			}
		}
		if first >= 0 {
			u.Validators[first].Active = now + 5
		}
	}
}

func modelFine(u *api.State) {
	total, sum := 0, 0
	for _, v := range u.Validators {
		if v.Active <= u.Slot/4 && u.Slot/4 < v.Exit {
			total += int(v.Effective)
		}
	}
	for _, fine := range u.Fines {
		sum += int(fine)
	}
	t := max(total, 1000)
	m := min(t, 2*sum)
	for i, v := range u.Validators {
		if v.Slashed && u.Slot/4+4 == v.Withdraw {
			modelMove(u, i, -(int(v.Effective) / 1000 * m / t * 1000))
		}
	}
}

func modelEffective(u *api.State) {
	for i := range u.Validators {
		balance, effective := int(u.Balances[i]), int(u.Validators[i].Effective)
		if balance+250 < effective || effective+1250 < balance {
			u.Validators[i].Effective = uint64(min(balance/1000*1000, 32000))
		}
	}
}

// drawn is a valid state that is drawn by lot: validators who wait, come, leave and are slashed about its epoch, of all balances.
func drawn(lot *rand.Rand) api.State {
	s := stateOf(1+lot.IntN(32), lot.Uint64N(60))
	if lot.IntN(5) == 0 {
		s.Slot += lot.Uint64N(1 << 20)
	}
	now := s.Slot / 4
	even, waits := lot.IntN(3) == 0, lot.IntN(3) == 0
	for i := range s.Validators {
		v := &s.Validators[i]
		if !even {
			v.Effective = drawnEffective(lot)
		}
		drawEpochs(lot, v, now, waits)
		s.Balances[i] = drawnBalance(lot, v.Effective)
	}
	s.Finalized.Epoch = now - min(now, lot.Uint64N(5))
	for i := range s.Fines {
		if lot.IntN(3) == 0 {
			s.Fines[i] = lot.Uint64N(1 << (1 + lot.IntN(40)))
		}
	}
	return s
}

func drawnEffective(lot *rand.Rand) uint64 {
	few := []uint64{32000, 31000, 16000, 17000, 15000, 0, 1000}
	if lot.IntN(2) == 0 {
		return few[lot.IntN(len(few))]
	}
	return 1000 * lot.Uint64N(33)
}

// drawEpochs makes a validator one who waits, came, leaves, left, or was slashed (most of those who aren't to wait came long ago).
func drawEpochs(lot *rand.Rand, v *api.Validator, now uint64, waits bool) {
	about := func(back, width uint64) uint64 { return now - min(now, back) + lot.Uint64N(width) }
	if waits || lot.IntN(6) == 0 {
		*v = waiting(*v, about(4, 8))
		if lot.IntN(4) == 0 {
			v.Eligible = api.FarFuture
		}
		if lot.IntN(4) == 0 {
			v.Active = about(3, 8)
		}
	}
	if lot.IntN(3) == 0 {
		*v = leaving(*v, about(3, 12), about(2, 16))
	}
	v.Slashed = lot.IntN(3) == 0
	if v.Slashed && lot.IntN(2) == 0 {
		v.Withdraw = now + 4
	}
}

// drawnBalance is any balance, most often one near an effective one.
func drawnBalance(lot *rand.Rand, effective uint64) uint64 {
	if lot.IntN(4) == 0 {
		return lot.Uint64N(1 << (1 + lot.IntN(40)))
	}
	return effective - min(effective, 1500) + lot.Uint64N(3500)
}
