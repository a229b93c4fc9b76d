package codec_test

import (
	"bytes"
	"encoding/hex"
	"math/rand"
	"reflect"
	"strings"
	"testing"

	"keystone/api"
	"keystone/codec"
)

// Texts of bytes in base sixteen, of which the answers are written out.

func zeros(count int) string { return strings.Repeat("00", count) }

// rootOf is a root of one byte again and again, and its text.
func rootOf(b byte) api.Root {
	var r api.Root
	for i := range r {
		r[i] = b
	}
	return r
}

func rootText(b byte) string { return strings.Repeat(hex.EncodeToString([]byte{b}), 32) }

func text(parts ...string) string { return strings.Join(parts, "") }

// numText is a small number's eight bytes.
func numText(b byte) string { return hex.EncodeToString([]byte{b}) + zeros(7) }

var (
	aHeader     = api.Header{Slot: 1, Proposer: 2, Parent: rootOf(3), State: rootOf(4), Body: rootOf(5)}
	aHeaderText = text(numText(1), numText(2), rootText(3), rootText(4), rootText(5))
	aVote       = api.Vote{Slot: 6, Index: 7, Block: rootOf(8), Source: api.Checkpoint{Epoch: 9, Root: rootOf(10)}, Target: api.Checkpoint{Epoch: 11, Root: rootOf(12)}}
	aVoteText   = text(numText(6), numText(7), rootText(8), numText(9), rootText(10), numText(11), rootText(12))

	anIndexed     = api.Indexed{Who: []uint64{13, 1 << 56}, Data: aVote, Sig: rootOf(14)}
	anIndexedText = text("a4000000", aVoteText, rootText(14), numText(13), "0000000000000001")
	anAtt         = api.Attestation{Bits: []bool{true, false, true}, Data: aVote, Sig: rootOf(15)}
	anAttText     = text("a4000000", aVoteText, rootText(15), "0d")
	aPending      = api.Pending{Bits: []bool{false, true, false, false, false, false, false, false}, Data: aVote, Delay: 16, Proposer: 17}
	aPendingText  = text("94000000", aVoteText, numText(16), numText(17), "0201")

	aProposers     = api.ProposerSlashing{A: api.SignedHeader{Header: aHeader, Sig: rootOf(18)}, B: api.SignedHeader{Header: aHeader, Sig: rootOf(19)}}
	aProposersText = text(aHeaderText, rootText(18), aHeaderText, rootText(19))
	anAttesters    = api.AttesterSlashing{A: anIndexed, B: api.Indexed{Sig: rootOf(20)}}
	// The first has 180 bytes: the second begins at 188.
	anAttestersText = text("08000000", "bc000000", anIndexedText, "a4000000", zeros(128), rootText(20))

	aData        = api.DepositData{Key: rootOf(21), Cred: rootOf(22), Amount: 23, Sig: rootOf(24)}
	aDataText    = text(rootText(21), rootText(22), numText(23), rootText(24))
	aDeposit     = api.Deposit{Proof: [6]api.Root{rootOf(25), rootOf(26), rootOf(27), rootOf(28), rootOf(29), rootOf(30)}, Data: aData}
	aDepositText = text(rootText(25), rootText(26), rootText(27), rootText(28), rootText(29), rootText(30), aDataText)
	anExit       = api.SignedExit{Exit: api.Exit{Epoch: 31, Index: 32}, Sig: rootOf(33)}
	anExitText   = text(numText(31), numText(32), rootText(33))

	aBody = api.Body{
		Randao: rootOf(34), Eth: api.Eth{Deposits: rootOf(35), Count: 36}, Graffiti: rootOf(37),
		Proposers:    []api.ProposerSlashing{aProposers},
		Attesters:    []api.AttesterSlashing{anAttesters},
		Attestations: []api.Attestation{anAtt, {}},
		Deposits:     []api.Deposit{aDeposit},
		Exits:        []api.SignedExit{anExit, {}},
	}
	// The places: 124; 288 on: 412; 4 and 352 on: 768; 8, 165 and 165 on: 1106; 296 on: 1402.
	aBodyText = text(rootText(34), rootText(35), numText(36), rootText(37),
		"7c000000", "9c010000", "00030000", "52040000", "7a050000",
		aProposersText,
		"04000000", anAttestersText,
		"08000000", "ad000000", anAttText, "a4000000", zeros(160), "01",
		aDepositText,
		anExitText, zeros(48))

	aBlock     = api.Block{Slot: 38, Proposer: 39, Parent: rootOf(40), State: rootOf(41), Body: aBody}
	aBlockText = text(numText(38), numText(39), rootText(40), rootText(41), "54000000", aBodyText)

	aValidator     = api.Validator{Key: rootOf(42), Cred: rootOf(43), Effective: 44, Slashed: true, Eligible: 45, Active: 46, Exit: 47, Withdraw: api.FarFuture}
	aValidatorText = text(rootText(42), rootText(43), numText(44), "01", numText(45), numText(46), numText(47), "ffffffffffffffff")
)

// aState is a state of which each field differs from each other.
func aState() (api.State, string) {
	s := api.State{
		Slot: 48, Header: aHeader, Eth: api.Eth{Deposits: rootOf(49), Count: 50},
		EthVotes: []api.Eth{{Deposits: rootOf(51), Count: 52}, {}}, Deposited: 53,
		Validators: []api.Validator{aValidator, {}}, Balances: []uint64{54, 55, 56},
		Previous: []api.Pending{aPending}, Current: []api.Pending{{}, aPending},
		Bits:         [4]bool{true, false, false, true},
		PreviousJust: api.Checkpoint{Epoch: 57, Root: rootOf(58)},
		CurrentJust:  api.Checkpoint{Epoch: 59, Root: rootOf(60)},
		Finalized:    api.Checkpoint{Epoch: 61, Root: rootOf(62)},
	}
	var blocks, states, mixes, fines string
	for i := range byte(16) {
		s.BlockRoots[i], s.StateRoots[i] = rootOf(100+i), rootOf(120+i)
		blocks, states = blocks+rootText(100+i), states+rootText(120+i)
	}
	for i := range byte(8) {
		s.Mixes[i], s.Fines[i] = rootOf(140+i), uint64(150+i)
		mixes, fines = mixes+rootText(140+i), fines+numText(150+i)
	}
	// The places: 1653; 80 on: 1733; 210 on: 1943; 24 on: 1967; 4 and 150 on: 2121.
	return s, text(numText(48), aHeaderText, blocks, states, rootText(49), numText(50),
		"75060000", numText(53), "c5060000", "97070000", mixes, fines, "af070000", "49080000", "09",
		numText(57), rootText(58), numText(59), rootText(60), numText(61), rootText(62),
		rootText(51), numText(52), zeros(40),
		aValidatorText, zeros(105),
		numText(54), numText(55), numText(56),
		"04000000", aPendingText,
		"08000000", "9d000000", "94000000", zeros(144), "01", aPendingText)
}

// P5.1, P5.2: values whose bytes are written out, there and back.
func TestByHand(t *testing.T) {
	state, stateText := aState()
	hands := map[string]struct {
		value any
		bytes string
	}{
		"Checkpoint":       {aVote.Source, text(numText(9), rootText(10))},
		"Header":           {aHeader, aHeaderText},
		"Vote":             {aVote, aVoteText},
		"Attestation":      {anAtt, anAttText},
		"Pending":          {aPending, aPendingText},
		"Indexed":          {anIndexed, anIndexedText},
		"ProposerSlashing": {aProposers, aProposersText},
		"AttesterSlashing": {anAttesters, anAttestersText},
		"DepositData":      {aData, aDataText},
		"Deposit":          {aDeposit, aDepositText},
		"SignedExit":       {anExit, anExitText},
		"Body":             {aBody, aBodyText},
		"Block":            {aBlock, aBlockText},
		"SignedBlock":      {api.SignedBlock{Block: aBlock, Sig: rootOf(63)}, text("24000000", rootText(63), aBlockText)},
		"Validator":        {aValidator, aValidatorText},
		"State":            {state, stateText},
	}
	checkWrittenOut(t, func(name string) (any, string) { return hands[name].value, hands[name].bytes })
}

// P5.1, P5.2: zero values, with the chapter's examples among them.
func TestZeroValues(t *testing.T) {
	texts := map[string]string{
		"Checkpoint":       zeros(40),
		"Header":           zeros(112),
		"Vote":             zeros(128),
		"Attestation":      text("a4000000", zeros(160), "01"),
		"Pending":          text("94000000", zeros(144), "01"),
		"Indexed":          text("a4000000", zeros(160)),
		"ProposerSlashing": zeros(288),
		"AttesterSlashing": text("08000000", "ac000000", "a4000000", zeros(160), "a4000000", zeros(160)),
		"DepositData":      zeros(104),
		"Deposit":          zeros(296),
		"SignedExit":       zeros(48),
		"Body":             text(zeros(104), strings.Repeat("7c000000", 5)),
		"Block":            text(zeros(80), "54000000", zeros(104), strings.Repeat("7c000000", 5)),
		"SignedBlock":      text("24000000", zeros(32), zeros(80), "54000000", zeros(104), strings.Repeat("7c000000", 5)),
		"Validator":        zeros(105),
		"State":            text(zeros(1184), "75060000", zeros(8), "75060000", "75060000", zeros(320), "75060000", "75060000", zeros(121)),
	}
	byName := map[string]kind{}
	for _, k := range kinds() {
		byName[k.name] = k
	}
	checkWrittenOut(t, func(name string) (any, string) { return reflect.Zero(byName[name].of).Interface(), texts[name] })
}

func checkWrittenOut(t *testing.T, of func(name string) (any, string)) {
	t.Helper()
	for _, k := range kinds() {
		value, written := of(k.name)
		if got := hex.EncodeToString(k.put(value)); got != written {
			t.Errorf("%s: bytes\n%s; want\n%s", k.name, got, written)
		}
		if k.take == nil {
			continue
		}
		b, err := hex.DecodeString(written)
		if err != nil {
			t.Fatal(err)
		}
		if got, errno := k.take(b); errno != api.OK || !same(got, value) {
			t.Errorf("To%s: %v, %d; want %v", k.name, got, errno, value)
		}
	}
}

// lengths are ways to choose how long lists are, within their limits.
func lengths(random *rand.Rand) map[string]func(int) int {
	return map[string]func(int) int{
		"none":   func(int) int { return 0 },
		"one":    func(int) int { return 1 },
		"full":   func(limit int) int { return limit },
		"random": func(limit int) int { return random.Intn(limit + 1) },
	}
}

// P5.1, P5.2, P3: values of many lengths of their lists, against the model, and there and back.
func TestAgainstModel(t *testing.T) {
	for _, k := range kinds() {
		random := rand.New(rand.NewSource(5))
		for name, length := range lengths(random) {
			for range 12 {
				value := filled(k.of, random, length)
				b := k.put(value)
				if !bytes.Equal(b, modelPut(reflect.ValueOf(value))) {
					t.Errorf("%s, lists %s: its bytes aren't those of the container", k.name, name)
				}
				if k.take == nil {
					continue
				}
				if got, errno := k.take(b); errno != api.OK || !same(got, value) {
					t.Errorf("To%s, lists %s: %d", k.name, name, errno)
				}
			}
		}
	}
}

// P5.1, P5.2: one element more than a list's limit has its bytes as any other, but no way back; just as many have one.
func TestLimits(t *testing.T) {
	for _, k := range backs() {
		random := rand.New(rand.NewSource(6))
		count := 0
		full := func(limit int) int { return min(limit, 2) }
		lists(reflect.ValueOf(filled(k.of, random, full)), 0, func(reflect.Value, int) { count++ })
		for which := range count {
			for _, more := range []int{0, 1, 2, 40} {
				checkLimit(t, k, which, more, filled(k.of, random, full))
			}
		}
	}
}

// checkLimit makes the list which of a value so much longer than its limit.
func checkLimit(t *testing.T, k kind, which, more int, value any) {
	t.Helper()
	v := reflect.New(k.of).Elem()
	v.Set(reflect.ValueOf(value))
	at := 0
	lists(v, 0, func(list reflect.Value, limit int) {
		if at == which {
			grown := reflect.MakeSlice(list.Type(), limit+more, limit+more)
			reflect.Copy(grown, list)
			list.Set(grown)
			// What was laid behind has lists too, which aren't to be counted.
			at = -1 << 30
		}
		at++
	})
	b := k.put(v.Interface())
	if !bytes.Equal(b, modelPut(v)) {
		t.Errorf("%s, list %d, %d above its limit: its bytes aren't those of the container", k.name, which, more)
	}
	got, errno := k.take(b)
	if more == 0 && (errno != api.OK || !same(got, v.Interface())) {
		t.Errorf("To%s, list %d at its limit: %d", k.name, which, errno)
	}
	if more > 0 && (errno != api.ErrSSZ || !same(got, reflect.Zero(k.of).Interface())) {
		t.Errorf("To%s, list %d, %d above its limit: %d", k.name, which, more, errno)
	}
}

// P5.1: bits and lists far beyond their limits.
func TestFarBeyondLimits(t *testing.T) {
	if b := codec.Attestation(api.Attestation{Bits: make([]bool, 4000)}); len(b) != 164+501 || b[664] != 1 {
		t.Errorf("4000 bits: %d bytes", len(b))
	}
	if b := codec.Indexed(api.Indexed{Who: make([]uint64, 4000)}); len(b) != 164+32000 {
		t.Errorf("4000 numbers: %d bytes", len(b))
	}
	b := codec.State(api.State{Balances: make([]uint64, 1000), Validators: make([]api.Validator, 1000), Current: make([]api.Pending, 1000)})
	if len(b) != 1653+8000+105000+1000*(4+148+1) {
		t.Errorf("a state of 1000 validators: %d bytes", len(b))
	}
	if _, errno := codec.ToState(b); errno != api.ErrSSZ {
		t.Errorf("a state of 1000 validators: %d", errno)
	}
}
