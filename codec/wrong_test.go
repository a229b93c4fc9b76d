package codec_test

import (
	"bytes"
	"math/rand"
	"reflect"
	"testing"

	"keystone/api"
	"keystone/codec"
)

// check: bytes are taken just if they are those of a value within its limits, and as that value (P5.2, P3).
func check(t *testing.T, k kind, b []byte) (taken bool) {
	t.Helper()
	want, ok := modelTake(b, k.of)
	got, errno := k.take(b)
	switch {
	case !ok && errno != api.ErrSSZ:
		t.Errorf("To%s(%x): %d; want ErrSSZ", k.name, b, errno)
	case !ok && !same(got, reflect.Zero(k.of).Interface()):
		t.Errorf("To%s(%x): %v beside an error", k.name, b, got)
	case ok && (errno != api.OK || !same(got, want.Interface())):
		t.Errorf("To%s(%x): %d; want OK and the value", k.name, b, errno)
	case ok && !bytes.Equal(k.put(got), b):
		t.Errorf("To%s(%x) is put as other bytes", k.name, b)
	}
	return ok
}

// small is values with few elements in their lists: short enough that each byte can be tried.
func small(k kind, random *rand.Rand) []any {
	return []any{
		reflect.Zero(k.of).Interface(),
		filled(k.of, random, func(limit int) int { return min(limit, 2) }),
		filled(k.of, random, func(int) int { return 1 }),
	}
}

// Each byte of a value's bytes is changed in many ways: some are other values' bytes, all others are refused.
func TestEachByteChanged(t *testing.T) {
	for _, k := range backs() {
		random := rand.New(rand.NewSource(7))
		taken, refused := 0, 0
		for _, value := range small(k, random) {
			b := k.put(value)
			for i, was := range b {
				for _, now := range []byte{was + 1, was ^ byte(1+random.Intn(255))} {
					b[i] = now
					if check(t, k, b) {
						taken++
					} else {
						refused++
					}
				}
				b[i] = was
			}
			if t.Failed() {
				t.FailNow()
			}
		}
		// Where there are neither places nor truths all bytes of the right number are a value's.
		_, one := oneSize(k.of)
		if all := one && k.name != "Validator"; taken == 0 || (refused == 0) != all {
			t.Errorf("To%s: %d taken, %d refused", k.name, taken, refused)
		}
	}
}

// Bytes that are cut off anywhere, or have more behind them.
func TestEachLength(t *testing.T) {
	for _, k := range backs() {
		random := rand.New(rand.NewSource(8))
		for _, value := range small(k, random) {
			b := k.put(value)
			for length := range b {
				check(t, k, b[:length])
				check(t, k, b[length:])
			}
			for _, more := range []byte{0, 1, 0xff} {
				for count := 1; count <= 300; count += 7 {
					check(t, k, append(b[:len(b):len(b)], bytes.Repeat([]byte{more}, count)...))
				}
			}
			if t.Failed() {
				t.FailNow()
			}
		}
	}
}

// Pieces of a value's bytes are laid elsewhere, left out or doubled, and places are moved.
func TestBytesMixed(t *testing.T) {
	for _, k := range backs() {
		random := rand.New(rand.NewSource(9))
		for range 1500 {
			value := filled(k.of, random, func(limit int) int { return random.Intn(min(limit, 3) + 1) })
			b := k.put(value)
			for range 1 + random.Intn(3) {
				b = mixed(b, random)
			}
			check(t, k, b)
			if t.Failed() {
				t.FailNow()
			}
		}
	}
}

func mixed(b []byte, random *rand.Rand) []byte {
	from := random.Intn(len(b) + 1)
	to := min(len(b), from+random.Intn(12))
	switch random.Intn(4) {
	case 0:
		return append(b[:from:from], b[to:]...)
	case 1:
		return append(b[:to:to], b[from:]...)
	case 2:
		return append(b[:from:from], append(make([]byte, 4*random.Intn(3)), b[from:]...)...)
	}
	b = bytes.Clone(b)
	for i := from; i < to; i++ {
		b[i] = byte(random.Intn(256))
	}
	return b
}

// Bytes that are nothing of the kind.
func TestNoBytesOfValues(t *testing.T) {
	for _, k := range backs() {
		random := rand.New(rand.NewSource(10))
		for _, b := range [][]byte{nil, {}, {0}, bytes.Repeat([]byte{0xff}, 2000), make([]byte, api.MaxBytes+1)} {
			if got, errno := k.take(b); errno != api.ErrSSZ || !same(got, reflect.Zero(k.of).Interface()) {
				t.Errorf("To%s of %d bytes: %d", k.name, len(b), errno)
			}
		}
		for range 300 {
			b := make([]byte, random.Intn(400))
			random.Read(b)
			check(t, k, b)
		}
	}
}

// Edges that are told apart by one byte, with the answers written out.
func TestWrongByHand(t *testing.T) {
	end := codec.Attestation(api.Attestation{})
	end[164] = 0
	if _, errno := codec.ToAttestation(end); errno != api.ErrSSZ {
		t.Errorf("bits without an end: %d", errno)
	}
	if _, errno := codec.ToAttestation(end[:164]); errno != api.ErrSSZ {
		t.Errorf("no bits at all: %d", errno)
	}
	validator := codec.Validator(api.Validator{})
	for truth, want := range map[byte]api.Errno{0: api.OK, 1: api.OK, 2: api.ErrSSZ, 0x80: api.ErrSSZ, 0xff: api.ErrSSZ} {
		validator[72] = truth
		if v, errno := codec.ToValidator(validator); errno != want || v.Slashed != (truth == 1) {
			t.Errorf("a truth of %d: %d", truth, errno)
		}
	}
	state := codec.State(api.State{})
	for bits := range 256 {
		state[1532] = byte(bits)
		want := api.OK
		if bits > 15 {
			want = api.ErrSSZ
		}
		s, errno := codec.ToState(state)
		if errno != want {
			t.Errorf("the state's bits %d: %d", bits, errno)
		}
		for i, bit := range s.Bits {
			if errno == api.OK && bit != (bits>>i&1 == 1) {
				t.Errorf("the state's bits %d: %v", bits, s.Bits)
			}
		}
	}
}

// One wrong part is enough, whichever it is: the others' being right doesn't mend it.
func TestEachPartWrong(t *testing.T) {
	var bad api.Attestation
	bad.Bits = make([]bool, 33)
	many := make([]uint64, 33)
	for i, b := range []api.Body{
		{Proposers: make([]api.ProposerSlashing, 3)},
		{Attesters: make([]api.AttesterSlashing, 2)},
		{Attesters: []api.AttesterSlashing{{A: api.Indexed{Who: many}}}},
		{Attesters: []api.AttesterSlashing{{B: api.Indexed{Who: many}}}},
		{Attestations: make([]api.Attestation, 9)},
		{Attestations: []api.Attestation{{}, bad, {}}},
		{Deposits: make([]api.Deposit, 5)},
		{Exits: make([]api.SignedExit, 3)},
	} {
		b.Randao = rootOf(7)
		if got, errno := codec.ToBody(codec.Body(b)); errno != api.ErrSSZ || !same(got, api.Body{}) {
			t.Errorf("body %d: %v, %d", i, got, errno)
		}
		block := api.Block{Slot: 7, Body: b}
		if got, errno := codec.ToBlock(codec.Block(block)); errno != api.ErrSSZ || !same(got, api.Block{}) {
			t.Errorf("block %d: %v, %d", i, got, errno)
		}
		signed := api.SignedBlock{Block: block, Sig: rootOf(7)}
		if got, errno := codec.ToSignedBlock(codec.SignedBlock(signed)); errno != api.ErrSSZ || !same(got, api.SignedBlock{}) {
			t.Errorf("signed block %d: %v, %d", i, got, errno)
		}
	}
	pending := api.Pending{Bits: make([]bool, 33)}
	for i, s := range []api.State{
		{EthVotes: make([]api.Eth, 9)},
		{Validators: make([]api.Validator, 33)},
		{Balances: many},
		{Previous: make([]api.Pending, 33)},
		{Current: make([]api.Pending, 33)},
		{Previous: []api.Pending{{}, pending}},
		{Current: []api.Pending{pending}},
	} {
		s.Slot = 7
		if got, errno := codec.ToState(codec.State(s)); errno != api.ErrSSZ || !same(got, api.State{}) {
			t.Errorf("state %d: %d", i, errno)
		}
	}
}
