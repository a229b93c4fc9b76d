package sign_test

import (
	"crypto/sha256"
	"encoding/binary"
	"encoding/hex"
	"math"
	"slices"
	"sync"
	"testing"

	"keystone/api"
	"keystone/sign"
)

// counted is the root whose bytes count up from first.
func counted(first byte) api.Root {
	var r api.Root
	for i := range r {
		r[i] = first + byte(i)
	}
	return r
}

// many is roots of which no two are alike.
func many(count int) []api.Root {
	all := make([]api.Root, count)
	for i := range all {
		all[i] = api.Root(sha256.Sum256(binary.LittleEndian.AppendUint64(nil, uint64(i))))
	}
	return all
}

// The model: chapter 7's words, by the library's digest.

func modelPair(a, b api.Root) api.Root {
	return api.Root(sha256.Sum256(slices.Concat(a[:], b[:])))
}

func modelNumber(n uint64) api.Root {
	var r api.Root
	binary.LittleEndian.PutUint64(r[:], n)
	return r
}

// modelJoin counts, bit by bit, how many tags have it.
func modelJoin(tags []api.Root) api.Root {
	var joined api.Root
	for bit := range 8 * len(joined) {
		count := 0
		for _, tag := range tags {
			count += int(tag[bit/8] >> (bit % 8) & 1)
		}
		joined[bit/8] |= byte(count%2) << (bit % 8)
	}
	return joined
}

func modelSig(keys []api.Root, message api.Root) api.Root {
	var tags []api.Root
	for _, key := range keys {
		tags = append(tags, modelPair(key, message))
	}
	return modelJoin(tags)
}

func expect(t *testing.T, what string, got api.Root, want string) {
	t.Helper()
	if text := hex.EncodeToString(got[:]); text != want {
		t.Errorf("%s = %s; want %s", what, text, want)
	}
}

// Chapter 7, Types: the kinds' numbers.
func TestKinds(t *testing.T) {
	numbers := [...]uint64{uint64(sign.Proposal), uint64(sign.Attest), uint64(sign.Random), uint64(sign.Depose), uint64(sign.Leave)}
	if numbers != [...]uint64{0, 1, 2, 3, 4} {
		t.Errorf("the kinds are %v", numbers)
	}
}

// P7.1: Message, with answers written out: each kind, and kinds that there are not, whose number has more bytes.
func TestMessageByHand(t *testing.T) {
	tests := []struct {
		k    sign.Kind
		want string
	}{
		{sign.Proposal, "5576ce645abbf23973c63a02b3cdb0efc8ed3c9bd7dac3845f6b9ad6820b4bde"},
		{sign.Attest, "e987b42bd50123fe7764ebae4f4155beebd99b9ede2613a632484aa090e270df"},
		{sign.Random, "58471096b255ae34f7f6f38374705ad5d19b6676718fae841cdbbab04f93cc57"},
		{sign.Depose, "dd409a807d4f3648fcbf5d0f93597a8876e874ed448449d1714d5ea99deedbe1"},
		{sign.Leave, "db43fecc268befffa80c47cb2f4486673d33406aa4e5f91b9ef65545256105fd"},
		{5, "83cd19ba749c4617b57184abbbac7e3814aa306250601741934195d53fd40516"},
		{256, "0a30deef40e6b8f1b7525cca83e1e67f1b77a9792214ba106178c64d01b2c729"},
		{1 << 32, "479f0052c8012c25a3e14baf5f66158291957196a170ee0bb10ed9dea7a5eae9"},
		{1<<63 + 7, "59e22ee229dd6aea5b644e02422fce78e499a5a2a0ec325fe9083a4654079fe2"},
		{math.MaxUint64, "a15779b50360aa69af0a575930aa2ab6a42bb5e28c93838dbb7ae339a92ab703"},
	}
	for _, x := range tests {
		expect(t, "Message", sign.Message(counted(0), x.k), x.want)
	}
}

// P7.1: Message of many roots and kinds is Pair of the root and the kind's number; no two have one message.
func TestMessage(t *testing.T) {
	seen := map[api.Root]bool{}
	for _, r := range append(many(20), api.Root{}, api.Root{31: 1}, counted(7)) {
		for shift := range 64 {
			k := sign.Kind(1) << shift
			got := sign.Message(r, k)
			if want := modelPair(r, modelNumber(uint64(k))); got != want {
				t.Errorf("Message(%x, %d) = %x; want %x", r, k, got, want)
			}
			if seen[got] {
				t.Errorf("Message(%x, %d) is another's", r, k)
			}
			seen[got] = true
		}
	}
}

// P7.1: Tag is Pair of both, the key first.
func TestTag(t *testing.T) {
	expect(t, "Tag", sign.Tag(counted(1), counted(100)), "1aa747fd2366a660e7fdf368407855ede930b6bf45a14264149f2ce81885575f")
	roots := append(many(8), api.Root{}, api.Root{1}, api.Root{31: 1}, counted(0))
	for _, key := range roots {
		for _, message := range roots {
			got := sign.Tag(key, message)
			if want := modelPair(key, message); got != want {
				t.Errorf("Tag(%x, %x) = %x; want %x", key, message, got, want)
			}
			if key != message && got == sign.Tag(message, key) {
				t.Errorf("Tag(%x, %x) is that of the two the other way round", key, message)
			}
		}
	}
}

// P7.1: Join, with answers written out.
func TestJoinByHand(t *testing.T) {
	var all255 api.Root
	for i := range all255 {
		all255[i] = 255
	}
	tests := []struct {
		tags []api.Root
		want api.Root
	}{
		{nil, api.Root{}},
		{[]api.Root{}, api.Root{}},
		{[]api.Root{{}}, api.Root{}},
		{[]api.Root{counted(9)}, counted(9)},
		{[]api.Root{counted(9), {}}, counted(9)},
		{[]api.Root{counted(9), counted(9)}, api.Root{}},
		{[]api.Root{counted(9), counted(9), counted(9)}, counted(9)},
		{[]api.Root{counted(9), counted(5), counted(9)}, counted(5)},
		{[]api.Root{{0: 0b1100, 31: 0b0011}, {0: 0b1010, 31: 0b0101}}, api.Root{0: 0b0110, 31: 0b0110}},
		{[]api.Root{{0: 1}, {0: 2}, {0: 4}, {1: 255}, {31: 128}}, api.Root{0: 7, 1: 255, 31: 128}},
		{[]api.Root{all255, all255}, api.Root{}},
		{[]api.Root{all255, {16: 15}, all255}, api.Root{16: 15}},
	}
	for _, x := range tests {
		if got := sign.Join(x.tags...); got != x.want {
			t.Errorf("Join(%x) = %x; want %x", x.tags, got, x.want)
		}
	}
	message := counted(100)
	joined := sign.Join(sign.Tag(counted(1), message), sign.Tag(counted(2), message), sign.Tag(counted(3), message))
	expect(t, "Join of three tags", joined, "1345cafa6c37fef5c41903bab0ca1af8660c766ff7f20baa45b2b45be9df7504")
}

// P7.1: Join of any number, in any order.
func TestJoin(t *testing.T) {
	if sign.Join() != (api.Root{}) {
		t.Error("Join of none isn't the zero root")
	}
	for count := range 70 {
		tags := many(count)
		want := modelJoin(tags)
		if got := sign.Join(tags...); got != want {
			t.Errorf("Join of %d = %x; want %x", count, got, want)
		}
		slices.Reverse(tags)
		if sign.Join(tags...) != want {
			t.Errorf("Join of %d hangs on their order", count)
		}
		half := count / 2
		if sign.Join(sign.Join(tags[:half]...), sign.Join(tags[half:]...)) != want {
			t.Errorf("Join of %d isn't Join of two halves", count)
		}
	}
}

// P7.1: without a key nothing is valid, not even Join of no tags.
func TestValidOfNoKeys(t *testing.T) {
	for _, keys := range [][]api.Root{nil, {}, make([]api.Root, 0, 4), many(3)[:0]} {
		for _, message := range []api.Root{{}, counted(4)} {
			for _, sig := range []api.Root{{}, sign.Join(), message, counted(1), sign.Tag(api.Root{}, message)} {
				if sign.Valid(keys, message, sig) {
					t.Errorf("Valid of no keys, %x, %x", message, sig)
				}
			}
		}
	}
}

// P7.1: Valid of one key up to more than all validators, and of every wrong sig that is one bit away.
func TestValid(t *testing.T) {
	message := counted(50)
	for _, count := range []int{1, 2, 3, 8, api.MaxValidators, api.MaxValidators + 1, 100} {
		keys := many(count)
		sig := modelSig(keys, message)
		if !sign.Valid(keys, message, sig) {
			t.Errorf("%d keys: their sig isn't valid", count)
		}
		for bit := range 8 * len(sig) {
			wrong := sig
			wrong[bit/8] ^= 1 << (bit % 8)
			if sign.Valid(keys, message, wrong) {
				t.Errorf("%d keys: valid with bit %d turned", count, bit)
			}
		}
		if sign.Valid(keys, message, api.Root{}) {
			t.Errorf("%d keys: the zero root is valid", count)
		}
	}
}

// P7.1: a sig is valid of just its keys and its message.
func TestValidOfOthers(t *testing.T) {
	keys, message := many(5), counted(50)
	sig := modelSig(keys, message)
	tests := []struct {
		name         string
		keys         []api.Root
		message, sig api.Root
		want         bool
	}{
		{"just these", keys, message, sig, true},
		{"in another order", []api.Root{keys[4], keys[2], keys[0], keys[1], keys[3]}, message, sig, true},
		{"one missing", keys[:4], message, sig, false},
		{"the first missing", keys[1:], message, sig, false},
		{"one more", many(6), message, sig, false},
		{"another key", append(many(4), counted(1)), message, sig, false},
		{"another message", keys, counted(51), sig, false},
		{"one key's tag", keys, message, modelPair(keys[0], message), false},
		{"key and message the other way round", keys[:1], message, modelPair(message, keys[0]), false},
		{"a message for another kind", keys, sign.Message(counted(50), sign.Random), modelSig(keys, sign.Message(counted(50), sign.Attest)), false},
		{"the zero key", []api.Root{{}}, api.Root{}, modelPair(api.Root{}, api.Root{}), true},
		{"the zero key, the zero sig", []api.Root{{}}, api.Root{}, api.Root{}, false},
	}
	for _, x := range tests {
		if got := sign.Valid(x.keys, x.message, x.sig); got != x.want {
			t.Errorf("Valid, %s: %t", x.name, got)
		}
	}
}

// P7.1: keys that come twice have tags that go away in Join; there is a key none the less.
func TestValidOfKeysTwice(t *testing.T) {
	a, b, message := counted(1), counted(2), counted(50)
	tag := modelPair(a, message)
	if twice := []api.Root{a, a}; !sign.Valid(twice, message, api.Root{}) || sign.Valid(twice, message, tag) {
		t.Error("Valid of a key twice: Join of its tags is the zero root, and nothing else is")
	}
	if thrice := []api.Root{a, b, a, b, a}; !sign.Valid(thrice, message, tag) || sign.Valid(thrice, message, api.Root{}) {
		t.Error("Valid of a key thrice and another twice: Join of their tags is the first's tag")
	}
}

// R6, R8: what is handed in stays as it was, and the room behind is neither looked at nor written.
func TestListsStay(t *testing.T) {
	message := counted(50)
	for _, count := range []int{0, 1, 3} {
		room := many(6)
		keys, before := room[:count], slices.Clone(room)
		got := sign.Join(keys...)
		if want := sign.Join(room[:count:count]...); got != want {
			t.Errorf("Join of %d hangs on the room behind them", count)
		}
		if valid := sign.Valid(keys, message, modelSig(keys, message)); valid != (count > 0) {
			t.Errorf("Valid of %d keys with room behind: %t", count, valid)
		}
		if !slices.Equal(room, before) {
			t.Errorf("Join or Valid of %d changed them, or the room behind", count)
		}
	}
}

// R6, R8: nothing is kept: a list that was changed is asked anew.
func TestNothingIsKept(t *testing.T) {
	keys, message := many(3), counted(50)
	sig := modelSig(keys, message)
	kept := keys[1]
	for range 2 {
		keys[1] = counted(8)
		if sign.Valid(keys, message, sig) {
			t.Error("Valid of keys that were changed")
		}
		keys[1] = kept
		if !sign.Valid(keys, message, sig) {
			t.Error("Valid of the same keys isn't the same")
		}
	}
}

// R8: calls side by side answer as calls one by one.
func TestSideBySide(t *testing.T) {
	keys, message := many(20), counted(50)
	sig := modelSig(keys, message)
	var group sync.WaitGroup
	var got [8]bool
	for i := range got {
		group.Go(func() { got[i] = sign.Valid(keys, message, sig) })
	}
	group.Wait()
	for _, valid := range got {
		if !valid {
			t.Error("Valid beside others: false")
		}
	}
}
