package root_test

import (
	"encoding/hex"
	"math/rand"
	"reflect"
	"testing"

	"keystone/api"
	"keystone/merkle"
	"keystone/root"
)

// rootOf is a root of one byte again and again.
func rootOf(b byte) api.Root {
	var r api.Root
	for i := range r {
		r[i] = b
	}
	return r
}

var (
	aHeader     = api.Header{Slot: 1, Proposer: 2, Parent: rootOf(3), State: rootOf(4), Body: rootOf(5)}
	aVote       = api.Vote{Slot: 6, Index: 7, Block: rootOf(8), Source: api.Checkpoint{Epoch: 9, Root: rootOf(10)}, Target: api.Checkpoint{Epoch: 11, Root: rootOf(12)}}
	anIndexed   = api.Indexed{Who: []uint64{13, 1 << 56}, Data: aVote, Sig: rootOf(14)}
	anAtt       = api.Attestation{Bits: []bool{true, false, true}, Data: aVote, Sig: rootOf(15)}
	aPending    = api.Pending{Bits: []bool{false, true, false, false, false, false, false, false}, Data: aVote, Delay: 16, Proposer: 17}
	aProposers  = api.ProposerSlashing{A: api.SignedHeader{Header: aHeader, Sig: rootOf(18)}, B: api.SignedHeader{Header: aHeader, Sig: rootOf(19)}}
	anAttesters = api.AttesterSlashing{A: anIndexed, B: api.Indexed{Sig: rootOf(20)}}
	aData       = api.DepositData{Key: rootOf(21), Cred: rootOf(22), Amount: 23, Sig: rootOf(24)}
	aDeposit    = api.Deposit{Proof: [6]api.Root{rootOf(25), rootOf(26), rootOf(27), rootOf(28), rootOf(29), rootOf(30)}, Data: aData}
	anExit      = api.SignedExit{Exit: api.Exit{Epoch: 31, Index: 32}, Sig: rootOf(33)}
	aBody       = api.Body{
		Randao: rootOf(34), Eth: api.Eth{Deposits: rootOf(35), Count: 36}, Graffiti: rootOf(37),
		Proposers:    []api.ProposerSlashing{aProposers},
		Attesters:    []api.AttesterSlashing{anAttesters},
		Attestations: []api.Attestation{anAtt, {}},
		Deposits:     []api.Deposit{aDeposit},
		Exits:        []api.SignedExit{anExit, {}},
	}
	aBlock     = api.Block{Slot: 38, Proposer: 39, Parent: rootOf(40), State: rootOf(41), Body: aBody}
	aValidator = api.Validator{Key: rootOf(42), Cred: rootOf(43), Effective: 44, Slashed: true, Eligible: 45, Active: 46, Exit: 47, Withdraw: api.FarFuture}
)

// aState is a state of which each field differs from each other.
func aState() api.State {
	s := api.State{
		Slot: 48, Header: aHeader, Eth: api.Eth{Deposits: rootOf(49), Count: 50},
		EthVotes: []api.Eth{{Deposits: rootOf(51), Count: 52}, {}}, Deposited: 53,
		Validators: []api.Validator{aValidator, {}}, Balances: []uint64{54, 55, 56},
		Previous: []api.Pending{aPending}, Current: []api.Pending{{}, aPending},
		Bits:         [4]bool{true, false, false, true},
		PreviousJust: api.Checkpoint{Epoch: 57, Root: rootOf(58)},
		CurrentJust:  api.Checkpoint{Epoch: 59, Root: rootOf(60)},
		Finalized:    api.Checkpoint{Epoch: 61, Root: rootOf(62)},
	}
	for i := range byte(16) {
		s.BlockRoots[i], s.StateRoots[i] = rootOf(100+i), rootOf(120+i)
	}
	for i := range byte(8) {
		s.Mixes[i], s.Fines[i] = rootOf(140+i), uint64(150+i)
	}
	return s
}

// P6.1, P4: roots of values, and of zero values, that were worked out once by another program, which was written of the chapter alone.
func TestWrittenOut(t *testing.T) {
	known := map[string]struct {
		value      any
		root, zero string
	}{
		"Checkpoint":       {aVote.Source, "45446d3406b4b6637982e64ab8340f21a1c20b5eb1d31cf04a70dc58807f9228", "f5a5fd42d16a20302798ef6ed309979b43003d2320d9f0e8ea9831a92759fb4b"},
		"Header":           {aHeader, "7a032425b545051efe04469c0afce63eccc32cc05c38529bea8907849c251a4d", "c78009fdf07fc56a11f122370658a353aaa542ed63e44c4bc15ff4cd105ab33c"},
		"Vote":             {aVote, "204419c13cb30f0b7ff0b49100a868ceac5bd0e0f95492dcc74879e3d41811d5", "01f278ee83d4e438cf8f563ce108974d64c029a20280ab8eca07741df7ee5290"},
		"Attestation":      {anAtt, "032f11591e0347ca985bf3b718759dd5432454ef3405d23cf273e62761be5b58", "00ad49e5aa2fd12fcffac69d491b1d8b95abc3bd3f72d469998da439126f63eb"},
		"Pending":          {aPending, "12f31e12b0cb786eedb7f9f65dbfb99d1ffed5ea14a42d7a2e16562442bbb963", "00ad49e5aa2fd12fcffac69d491b1d8b95abc3bd3f72d469998da439126f63eb"},
		"Indexed":          {anIndexed, "5cfb0a8661b3d8a84385683b7aaf10573ad00834f7fc0f597e0a5ac5bde80d97", "34d9151f6b7272032e37d35a8e81c3ad60bb45e3c64343a90aa74c64b3fa80b6"},
		"ProposerSlashing": {aProposers, "def017499193a5ac82a1c9817bb78d8047dc092321d1881007e807a52e725254", "d9bf22db0570bfd76597ac5530bf2136a6d62736a538ed0b6e7cf5681f54e145"},
		"AttesterSlashing": {anAttesters, "745af84367bc3619d99471ec58c39833d404fd2d26b7875872c4c257b34e994d", "c5528110fea16ecc33b2b2976396eab7a0466537a49d3be10434f89b82c5e6c3"},
		"DepositData":      {aData, "7d7808b3b34f516fbf5fe249deaebe45b5ec57a2bfc6c01c4075276bfa59c9b9", "db56114e00fdd4c1f85c892bf35ac9a89289aaecb1ebd0a96cde606a748b5d71"},
		"Deposit":          {aDeposit, "8b6e0e8d7bbba10d54ece61c7e1263d1ab5aa4cb15059fb84afb4b4b3ea2298f", "75fbdb83b1dfa7d5cace569fb811348e77014d7ab517818a771c1a61d3303d83"},
		"Exit":             {anExit.Exit, "bab756e0446b4c5165034661049a2c9bc57662b29a82107001ad4b050af5ed5d", "f5a5fd42d16a20302798ef6ed309979b43003d2320d9f0e8ea9831a92759fb4b"},
		"SignedExit":       {anExit, "df0ec53745765157419ec56811529bf7fe0c39cc64120cea0f8c7d247fc8f685", "7a0501f5957bdf9cb3a8ff4966f02265f968658b7a9c62642cba1165e86642f5"},
		"Eth":              {aBody.Eth, "7758e2270e5decae8817b380cf787c93b353496d25bf31d0576e888c51906f98", "f5a5fd42d16a20302798ef6ed309979b43003d2320d9f0e8ea9831a92759fb4b"},
		"Body":             {aBody, "d0cac5c0a1dc1f573e86b4a975a04aae06db0920537761e8c95f4bd3cf9a9a1f", "799fd9a443bdc5cfaf5b20a47f5378b6b7b205240314281308784502e737ddad"},
		"Block":            {aBlock, "6ad40ce74aa8ed1229bda6eab566bc2738969f9122645ce41fa8e7e21de24b09", "f856832eb2eeb6d7205cdfeb0d76457349f6b86a37280c8d968cefdf80b6e3e8"},
		"Validator":        {aValidator, "65e7d54ba5e45d9dffd7c4285b5dc34d9307f2779a1cfa0b2d9deb06f9082792", "c78009fdf07fc56a11f122370658a353aaa542ed63e44c4bc15ff4cd105ab33c"},
		"State":            {aState(), "469e6fefbb70f0e9a52c39e12828333532c33717171173fd18e3e55ae0976a3f", "dbe00af85a8af345e34146f63274c77998171a795d7286b0074671ec5a53e257"},
	}
	for _, k := range kinds() {
		want := known[k.name]
		wantRoot(t, k.name, k.root(want.value), want.root)
		wantRoot(t, k.name+", zero", k.root(reflect.Zero(k.of).Interface()), want.zero)
	}
	wantRoot(t, "DepositMessage", root.DepositMessage(aData), "e45b7ff8f8e13b52fce4ae9ee6e475a49d3cfb0ca3a102b5a4ecdc8dfebd4081")
	wantRoot(t, "Numbers of five", root.Numbers([]uint64{1, 2, 3, 4, 5}), "5f7f3f90066b5a6fada5d71de0cf9868e1e408f49b425389924a86c8181ffa75")
}

func wantRoot(t *testing.T, what string, got api.Root, want string) {
	t.Helper()
	if hex.EncodeToString(got[:]) != want {
		t.Errorf("%s: %x; want %s", what, got, want)
	}
}

// P6.1: the chapter's examples.
func TestExamples(t *testing.T) {
	if root.Checkpoint(api.Checkpoint{}) != merkle.Zero(1) {
		t.Error("a zero Checkpoint isn't Zero(1)")
	}
	if root.Numbers(nil) != merkle.Mix(merkle.Zero(3), 0) {
		t.Error("Numbers of none isn't Mix(Zero(3), 0)")
	}
	if root.Header(api.Header{}) != merkle.Zero(3) {
		t.Error("a zero Header isn't Zero(3)")
	}
}

// P6.1, P4: values of many lengths of their lists, against the model.
func TestAgainstModel(t *testing.T) {
	for _, k := range kinds() {
		random := rand.New(rand.NewSource(1))
		lengths := map[string]func(int) int{
			"none":   func(int) int { return 0 },
			"one":    func(int) int { return 1 },
			"full":   func(limit int) int { return limit },
			"random": func(limit int) int { return random.Intn(limit + 1) },
			"beyond": func(limit int) int { return random.Intn(limit + 3) },
		}
		for name, length := range lengths {
			for range 8 {
				checkModel(t, k, name, filled(k.of, random, length))
			}
		}
	}
}

func checkModel(t *testing.T, k kind, what string, v reflect.Value) {
	t.Helper()
	if got, want := k.root(v.Interface()), modelRoot(v, 0); got != want {
		t.Errorf("%s, lists %s: %x; want %x", k.name, what, got, want)
	}
}

// P6.1: each list alone below its limit, at it, and above it.
func TestLimits(t *testing.T) {
	for _, k := range kinds() {
		random := rand.New(rand.NewSource(2))
		few := func(limit int) int { return min(limit, 2) }
		count := 0
		listsOf(filled(k.of, random, few), func(reflect.Value, int) { count++ })
		for which := range count {
			for _, more := range []int{-1, 0, 1, 2, 40} {
				v := filled(k.of, random, few)
				lengthen(v, which, more, random)
				checkModel(t, k, "of other lengths", v)
			}
		}
	}
}

// lengthen makes the list which of a value so much longer than its limit.
func lengthen(v reflect.Value, which, more int, random *rand.Rand) {
	var all []reflect.Value
	var limits []int
	listsOf(v, func(list reflect.Value, limit int) {
		all = append(all, list)
		limits = append(limits, limit)
	})
	list := all[which]
	list.Set(reflect.MakeSlice(list.Type(), limits[which]+more, limits[which]+more))
	for _, e := range elements(list) {
		fill(e, random, func(limit int) int { return min(limit, 1) }, 0)
	}
}

// P6.1: the tree of a list beyond its limit is the zero root, however long it is: only how many there are is told.
func TestBeyondLimits(t *testing.T) {
	for _, count := range []int{33, 64, 1000} {
		zero := merkle.Mix(api.Root{}, uint64(count))
		numbers := make([]uint64, count)
		numbers[7] = 7
		if root.Numbers(numbers) != zero {
			t.Errorf("Numbers of %d isn't Mix of the zero root", count)
		}
		s := api.State{Validators: make([]api.Validator, count), Balances: numbers, Previous: make([]api.Pending, count), EthVotes: make([]api.Eth, count)}
		want := modelRoot(reflect.ValueOf(s), 0)
		s.Validators[2].Effective, s.Previous[3].Delay, s.EthVotes[4].Count, s.Balances[8] = 5, 6, 7, 8
		if root.State(s) != want {
			t.Errorf("a State with lists of %d: the elements beyond the limits are to be seen", count)
		}
	}
}

// P6.1: numbers of every length up to the limit and some beyond.
func TestNumbers(t *testing.T) {
	random := rand.New(rand.NewSource(3))
	seen := map[api.Root]int{}
	for count := range 70 {
		numbers := make([]uint64, count)
		check := func() {
			t.Helper()
			if got, want := root.Numbers(numbers), modelRoot(reflect.ValueOf(numbers), 32); got != want {
				t.Errorf("Numbers of %d: %x; want %x", count, got, want)
			}
		}
		check()
		if other, ok := seen[root.Numbers(numbers)]; ok {
			t.Errorf("%d zeros have the root of %d", count, other)
		}
		seen[root.Numbers(numbers)] = count
		for i := range numbers {
			numbers[i] = random.Uint64()
		}
		check()
	}
}

// P6.1: bits of every length that has an edge: a byte's, the limit's, a chunk's.
func TestBits(t *testing.T) {
	random := rand.New(rand.NewSource(4))
	for _, count := range []int{0, 1, 7, 8, 9, 31, 32, 33, 64, 255, 256, 257, 512, 3000} {
		bits := make([]bool, count)
		for i := range bits {
			bits[i] = random.Intn(2) == 1
		}
		want := modelPair(modelTree(modelPack(modelBits(reflect.ValueOf(bits))), 1), modelNumber(count))
		if count > 256 {
			want = merkle.Mix(merkle.Zero(0), uint64(count))
		}
		none := root.Vote(api.Vote{})
		if got := root.Attestation(api.Attestation{Bits: bits}); got != modelTree([]api.Root{want, none, {}}, 3) {
			t.Errorf("an Attestation of %d bits: %x", count, got)
		}
		if got := root.Pending(api.Pending{Bits: bits}); got != modelTree([]api.Root{want, none, {}, {}}, 4) {
			t.Errorf("a Pending of %d bits: %x", count, got)
		}
	}
}

// P6.1: a root tells each number, truth and byte of its value.
func TestEachPartTells(t *testing.T) {
	for _, k := range kinds() {
		v := filled(k.of, rand.New(rand.NewSource(5)), func(limit int) int { return min(limit, 2) })
		before := k.root(v.Interface())
		inside(v, 0, func(part reflect.Value, _ int) {
			switch part.Kind() {
			case reflect.Uint8, reflect.Uint64:
				part.SetUint(part.Uint() ^ 128)
				defer part.SetUint(part.Uint() ^ 128)
			case reflect.Bool:
				part.SetBool(!part.Bool())
				defer part.SetBool(!part.Bool())
			default:
				return
			}
			if k.root(v.Interface()) == before {
				t.Fatalf("%s: a part may be another, and the root stays", k.name)
			}
		})
		if k.root(v.Interface()) != before {
			t.Errorf("%s: the root of the same value isn't the same", k.name)
		}
	}
}

// P6.1: what is signed of a deposit is its Key, Cred and Amount.
func TestDepositMessage(t *testing.T) {
	random := rand.New(rand.NewSource(6))
	for range 20 {
		d := filled(reflect.TypeFor[api.DepositData](), random, nil).Interface().(api.DepositData)
		message := struct {
			Key, Cred api.Root
			Amount    uint64
		}{d.Key, d.Cred, d.Amount}
		want := modelRoot(reflect.ValueOf(message), 0)
		if root.DepositMessage(d) != want {
			t.Errorf("DepositMessage(%v): not the root of Key, Cred, Amount", d)
		}
		d.Sig[random.Intn(32)]++
		if root.DepositMessage(d) != want {
			t.Error("DepositMessage hangs on the Sig")
		}
	}
}

// P6.2: a block's header, whose root is the block's.
func TestToHeader(t *testing.T) {
	random := rand.New(rand.NewSource(7))
	lengths := map[string]func(int) int{
		"none": func(int) int { return 0 },
		"some": func(limit int) int { return random.Intn(limit + 1) },
		"more": func(limit int) int { return limit + 1 },
	}
	for name, length := range lengths {
		for range 5 {
			v := filled(reflect.TypeFor[api.Block](), random, length)
			b := v.Interface().(api.Block)
			want := api.Header{Slot: b.Slot, Proposer: b.Proposer, Parent: b.Parent, State: b.State, Body: modelRoot(reflect.ValueOf(b.Body), 0)}
			got := root.ToHeader(b)
			if got != want {
				t.Errorf("ToHeader, lists %s: %v; want %v", name, got, want)
			}
			if root.Block(b) != root.Header(got) || root.Block(b) != modelRoot(v, 0) {
				t.Errorf("Block, lists %s: not its header's root, and the block's", name)
			}
		}
	}
	if got, want := root.ToHeader(api.Block{}), (api.Header{Body: root.Body(api.Body{})}); got != want {
		t.Errorf("ToHeader of a zero Block: %v; want %v", got, want)
	}
}
