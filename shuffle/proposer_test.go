package shuffle_test

import (
	"math"
	"reflect"
	"slices"
	"sync"
	"testing"

	"keystone/api"
	"keystone/shuffle"
)

// stateOf is a state of validators with these effective balances.
func stateOf(effective ...uint64) api.State {
	var s api.State
	for _, e := range effective {
		s.Validators = append(s.Validators, api.Validator{Effective: e})
	}
	return s
}

// alike is a count of balances that are all the same.
func alike(balance uint64, count int) []uint64 { return slices.Repeat([]uint64{balance}, count) }

// upTo is the numbers from 0 to n - 1.
func upTo(n uint64) []uint64 {
	var all []uint64
	for k := range n {
		all = append(all, k)
	}
	return all
}

func expectProposer(t *testing.T, what string, s api.State, some []uint64, seed api.Root, want uint64, errno api.Errno) {
	t.Helper()
	if got, e := shuffle.Proposer(s, some, seed); got != want || e != errno {
		t.Errorf("%s: Proposer = %d, %d; want %d, %d", what, got, e, want, errno)
	}
}

// P8.2: Proposer, with answers written out, that are found from the first try up to the 1255th.
func TestProposerByHand(t *testing.T) {
	full, low := stateOf(alike(32000, 8)...), stateOf(alike(1000, 8)...)
	uneven, none := stateOf(32000, 16000, 0, 1000, 8000, 4000), stateOf(0, 0, 0)
	tests := []struct{ full, low, uneven, none uint64 }{
		{1, 7, 3, 0}, {0, 1, 1, 2}, {0, 7, 3, 1}, {5, 6, 1, 0}, {0, 6, 1, 0}, {2, 1, 3, 2}, {7, 1, 4, 1}, {0, 2, 5, 2},
	}
	for k, want := range tests {
		seed := counted(byte(k))
		expectProposer(t, "full balances", full, upTo(8), seed, want.full, api.OK)
		expectProposer(t, "low balances", low, []uint64{7, 1, 6, 2}, seed, want.low, api.OK)
		expectProposer(t, "uneven balances", uneven, []uint64{5, 4, 3, 2, 1}, seed, want.uneven, api.OK)
		expectProposer(t, "balances of 0", none, []uint64{0, 2, 1}, seed, want.none, api.OK)
	}
	expectProposer(t, "rising balances", stateOf(1000, 2000, 3000, 4000, 5000, 6000, 7000, 8000), upTo(8), counted(0), 4, api.OK)
}

// some lists of validators, among them such as name one twice, or one that there may not be.
func lists() [][]uint64 {
	return [][]uint64{
		{0}, {3}, {9, 2}, {4, 4, 4}, {1, 0, 1, 5}, upTo(10), {9, 8, 7, 6, 5, 4, 3, 2, 1, 0}, {11, 0, 5, 2}, upTo(12), {0, 1, 2, math.MaxUint64},
		upTo(11)[1:], slices.Repeat(upTo(10), 30),
	}
}

// P8.2: Proposer of many balances, lists and seeds is what the words of the chapter say, tries behind the first round of the list and behind the first digest among them.
func TestProposer(t *testing.T) {
	var late, wrong, lateWrong int
	for k, seed := range many(60) {
		balances := []uint64{0, 1, 124, 125, 1000, 2000, 500, 32000, 31999, 16000}
		for j := range balances {
			balances[j] /= uint64(1 + k%4*k%7)
		}
		for _, s := range []api.State{stateOf(balances...), stateOf(alike(1000, 11)...), stateOf(alike(0, 10)...), stateOf(alike(32000, 3)...)} {
			for _, some := range lists() {
				want, errno, try := modelProposer(s, some, seed)
				expectProposer(t, "model", s, some, seed, want, errno)
				if errno == api.OK && try >= 32 {
					late++
				}
				if errno == api.ErrRange {
					wrong++
				}
				if errno == api.ErrRange && try > 0 {
					lateWrong++
				}
			}
		}
	}
	if late < 50 || wrong < 50 || lateWrong < 50 {
		t.Errorf("too few answers of a kind: %d late, %d wrong, %d wrong and not at the first try", late, wrong, lateWrong)
	}
}

// seedWithLot is a seed at whose first try this lot is drawn.
func seedWithLot(lot byte) api.Root {
	for k := uint64(0); ; k++ {
		var seed api.Root
		copy(seed[:], little(k, 8))
		if modelLot(0, seed) == lot {
			return seed
		}
	}
}

// isFirst tells if of two validators the one that is tried first is taken, when it has this balance and the other one the greatest.
func isFirst(effective uint64, seed api.Root) bool {
	first := modelIndex(0, 2, seed)
	s := stateOf(32000, 32000)
	s.Validators[first].Effective = effective
	got, errno := shuffle.Proposer(s, []uint64{0, 1}, seed)
	return got == first && errno == api.OK
}

// P8.2: for each lot the least balance that it takes, and the one below.
func TestProposerLots(t *testing.T) {
	for lot := range 256 {
		seed := seedWithLot(byte(lot))
		least := modelLeast(byte(lot))
		if !isFirst(least, seed) {
			t.Errorf("the lot %d doesn't take %d", lot, least)
		}
		if least > 0 && isFirst(least-1, seed) {
			t.Errorf("the lot %d takes %d", lot, least-1)
		}
	}
}

// P8.2: balances, with the answers written out, that make the product just as great as what the lot asks, and no more.
func TestProposerJustAsGreat(t *testing.T) {
	for lot, effective := range map[byte]uint64{51: 6400, 102: 12800, 153: 19200, 204: 25600, 255: 32000} {
		if seed := seedWithLot(lot); !isFirst(effective, seed) || isFirst(effective-1, seed) {
			t.Errorf("the lot %d: not taken at %d, or taken below", lot, effective)
		}
	}
}

// P8.2, R1: a balance whose product with 255 is no uint64 is above what any lot asks.
func TestProposerGreatBalances(t *testing.T) {
	great := []uint64{32001, 1 << 40, 1 << 56, math.MaxUint64 / 255, math.MaxUint64/255 + 1, math.MaxUint64/255 + 2, 1 << 57, 1 << 63, math.MaxUint64}
	for _, lot := range []byte{1, 128, 255} {
		for _, effective := range great {
			if !isFirst(effective, seedWithLot(lot)) {
				t.Errorf("the lot %d doesn't take %d", lot, effective)
			}
		}
	}
}

// P8.2: nobody: ErrEmpty, whatever the state.
func TestProposerOfNobody(t *testing.T) {
	for _, s := range []api.State{{}, stateOf(32000), stateOf(alike(0, 32)...)} {
		for _, some := range [][]uint64{nil, {}, make([]uint64, 0, 4)} {
			expectProposer(t, "nobody", s, some, counted(2), 0, api.ErrEmpty)
		}
	}
}

// P8.2: ErrRange of a place that is no validator, and 0 beside it (R3).
func TestProposerRange(t *testing.T) {
	for _, seed := range many(8) {
		expectProposer(t, "no validators", stateOf(), []uint64{0}, seed, 0, api.ErrRange)
		expectProposer(t, "one behind the last", stateOf(32000, 32000), []uint64{2}, seed, 0, api.ErrRange)
		expectProposer(t, "the greatest", stateOf(32000, 32000), []uint64{math.MaxUint64}, seed, 0, api.ErrRange)
		expectProposer(t, "the last", stateOf(32000, 32000), []uint64{1}, seed, 1, api.OK)
	}
}

// P8.2, R2: a place that is no validator counts once it is tried, and not ahead.
func TestProposerRangeWhenTried(t *testing.T) {
	for lot := range 256 {
		seed := seedWithLot(byte(lot))
		some := []uint64{0, 0}
		some[modelIndex(1, 2, seed)] = 1 // tried second
		expectProposer(t, "taken ahead", stateOf(modelLeast(byte(lot))), some, seed, 0, api.OK)
		if lot > 0 {
			expectProposer(t, "not taken", stateOf(modelLeast(byte(lot))-1), some, seed, 0, api.ErrRange)
		}
	}
}

// manyPlaces is more places than there are tries, of which those that are never tried are no validators.
func manyPlaces(seed api.Root) []uint64 {
	some := alike(math.MaxUint64, 5000)
	for i := range uint64(4096) {
		some[modelIndex(i, 5000, seed)] = i % 4
	}
	return some
}

// P8.2: of more places than there are tries those behind are never asked.
func TestProposerOfMany(t *testing.T) {
	s := stateOf(0, 0, 0, 0)
	expectProposer(t, "the last try", s, manyPlaces(numbered(lastTry)), numbered(lastTry), 4095%4, api.OK)
	expectProposer(t, "one too late", s, manyPlaces(numbered(oneTooLate)), numbered(oneTooLate), 0, api.ErrEmpty)
}

// Seeds, searched for among the numbers, with no lot 0 up to a try: a balance of 0 is taken then and not ahead.
const (
	lastTry    = 2817398217 // at the last one, 4095
	oneTooLate = 801219311  // at the one behind
	never      = 5735186    // behind 4160 at the earliest
)

// numbered is the root that begins with a number's bytes.
func numbered(n uint64) api.Root {
	var r api.Root
	copy(r[:], little(n, 8))
	return r
}

// P8.2: there are 4096 tries, and no more.
func TestProposerTries(t *testing.T) {
	for _, n := range []uint64{1, 2, 3, 7, 32, 100} {
		s, some := stateOf(alike(0, int(n))...), upTo(n)
		want := modelIndex(4095%n, n, numbered(lastTry))
		expectProposer(t, "the last try", s, some, numbered(lastTry), want, api.OK)
		expectProposer(t, "one too late", s, some, numbered(oneTooLate), 0, api.ErrEmpty)
		expectProposer(t, "never", s, some, numbered(never), 0, api.ErrEmpty)
	}
}

// P8.2: of a state nothing but its validators' effective balances counts.
func TestProposerEffectiveAlone(t *testing.T) {
	for _, seed := range many(20) {
		s := stateOf(1000, 2000, 3000, 4000)
		want, _ := shuffle.Proposer(s, upTo(4), seed)
		s.Slot, s.Balances, s.Mixes[6] = 77, []uint64{9, 8, 7, 6}, counted(1)
		for k := range s.Validators {
			v := &s.Validators[k]
			v.Key, v.Slashed, v.Active, v.Exit = counted(byte(k)), true, api.FarFuture, 1
		}
		expectProposer(t, "other fields", s, upTo(4), seed, want, api.OK)
	}
}

// R6: neither the state nor the list is changed, spare room included.
func TestProposerChangesNothing(t *testing.T) {
	s, before := stateOf(0, 1000, 32000), stateOf(0, 1000, 32000)
	room := []uint64{2, 0, 1, 99, 98}
	for _, seed := range many(20) {
		shuffle.Proposer(s, room[:3], seed)
	}
	if !slices.Equal(room, []uint64{2, 0, 1, 99, 98}) || !reflect.DeepEqual(s, before) {
		t.Errorf("Proposer changed what it was handed: %v, %v", room, s)
	}
}

// R8: calls side by side, on one state and list, answer as one alone.
func TestProposerSideBySide(t *testing.T) {
	s, some := stateOf(0, 1000, 500, 32000), []uint64{2, 0, 1, 3}
	var wait sync.WaitGroup
	for _, seed := range many(16) {
		wait.Go(func() {
			for range 5 {
				want, errno, _ := modelProposer(s, some, seed)
				expectProposer(t, "side by side", s, some, seed, want, errno)
			}
		})
	}
	wait.Wait()
}
