package shuffle_test

import (
	"encoding/hex"
	"math"
	"testing"

	"keystone/api"
	"keystone/shuffle"
)

// mixed is a state whose mixes all differ.
func mixed() api.State {
	var s api.State
	for m := range s.Mixes {
		s.Mixes[m] = counted(byte(10 * m))
	}
	return s
}

// P8.2: Seed, with answers written out: epochs whose mix's place goes round, and kinds of more than four bytes, of which the lowest count.
func TestSeedByHand(t *testing.T) {
	tests := []struct {
		epoch, kind uint64
		want        string
	}{
		{0, 0, "7d50177b63833c13985f0e0c1102aa11d47a1857e355a1a4b65babeb64e1b575"},
		{1, 0, "46f673bb89328de73e73bf56f70242565456dd2cb77bb4c775d839dea3fa5349"},
		{2, 0, "aa5aeb7fe42abd1e89526973c5cec19b8ade27486d73e3dde2913106a93c8d8d"},
		{3, 1, "a7bae30c6fd5455df108e8f962771f9d6a75d375ee9db6ad2f40d53645fa3925"},
		{7, 1, "931117c567e2d0540d2b6a4fe911c6b673d359c363fda71ac101469e204db1cd"},
		{8, 2, "4fa712297d04375cf3bca6a62d6c1f3108382fc252e742693ac368740421ca50"},
		{9, 4294967295, "8eeb2804a7b836dd4d8edeb6c3b8b40374f2cb3353050ef5dcd621ee6fc77595"},
		{10, 4294967296, "2ddf3455acc1e22eee59ffb68581376ca7322681b6d221fbb92a80449972d890"},
		{4294967296, 3, "49dcd7dfc060a48c6a1fa7e3fa0738a5ddbcbaa0cfd9688ac661c045c0395f30"},
		{9223372036854775813, 4294967297, "886bad2b861525d39ac23535b562e72a04f5f9d827f67cd6499714afeed3c7b9"},
		{18446744073709551610, 0, "735d7dba75cff2314013efebb9e9d69610ef6f990aaeb09e2bf38b540ebfcbfe"},
		{18446744073709551615, 18446744073709551615, "095a7651fd6fd1b43563c7c1f7cc6b64e9e424d354d81db2d15a502bcf10816f"},
	}
	for _, x := range tests {
		got := shuffle.Seed(mixed(), x.epoch, x.kind)
		if text := hex.EncodeToString(got[:]); text != x.want {
			t.Errorf("Seed(%d, %d) = %s; want %s", x.epoch, x.kind, text, x.want)
		}
	}
}

// P8.2: Seed of many epochs and kinds, at the end of the numbers too, is what the words of the chapter say.
func TestSeed(t *testing.T) {
	kinds := []uint64{0, 1, 2, 4, 255, 256, 1 << 24, 1<<32 - 1, 1 << 32, 1<<32 + 1, math.MaxUint64}
	for _, start := range []uint64{0, 1<<32 - 20, 1<<63 - 20, math.MaxUint64 - 39} {
		for k := range uint64(40) {
			for _, kind := range kinds {
				got := shuffle.Seed(mixed(), start+k, kind)
				if want := modelSeed(mixed(), start+k, kind); got != want {
					t.Errorf("Seed(%d, %d) = %x; want %x", start+k, kind, got, want)
				}
			}
		}
	}
}

// P8.2: of a state's mixes just the one two places ahead of the epoch's counts.
func TestSeedMix(t *testing.T) {
	for epoch := range uint64(24) {
		before := shuffle.Seed(mixed(), epoch, 1)
		for m := range uint64(8) {
			s := mixed()
			s.Mixes[m][31] ^= 0x80
			changed := shuffle.Seed(s, epoch, 1) != before
			if want := (m+2)%8 == epoch%8; changed != want {
				t.Errorf("epoch %d: mix %d counts: %v", epoch, m, changed)
			}
		}
	}
}

// P8.2: of a state nothing but its mixes counts.
func TestSeedMixesAlone(t *testing.T) {
	s := mixed()
	s.Slot, s.Deposited = 99, 5
	s.BlockRoots[6], s.StateRoots[6] = counted(1), counted(2)
	s.Validators = make([]api.Validator, 3)
	s.CurrentJust.Epoch = 4
	if shuffle.Seed(s, 0, 0) != shuffle.Seed(mixed(), 0, 0) {
		t.Errorf("Seed hangs on more than the mixes")
	}
}
