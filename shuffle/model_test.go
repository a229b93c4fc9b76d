package shuffle_test

import (
	"crypto/sha256"
	"encoding/binary"
	"slices"

	"keystone/api"
)

// counted is the root whose bytes count up from first.
func counted(first byte) api.Root {
	var r api.Root
	for i := range r {
		r[i] = first + byte(i)
	}
	return r
}

// many is roots of which no two are alike.
func many(count int) []api.Root {
	all := make([]api.Root, count)
	for i := range all {
		all[i] = api.Root(sha256.Sum256(binary.LittleEndian.AppendUint64(nil, uint64(i))))
	}
	return all
}

// The model: chapter 8's words, by the library's digest.

func little(n uint64, size int) []byte {
	return binary.LittleEndian.AppendUint64(nil, n)[:size]
}

func modelPivot(r byte, n uint64, seed api.Root) uint64 {
	d := sha256.Sum256(append(slices.Clone(seed[:]), r))
	return binary.LittleEndian.Uint64(d[:8]) % n
}

func modelBit(r byte, p uint64, seed api.Root) bool {
	d := sha256.Sum256(slices.Concat(seed[:], []byte{r}, little(p/256, 4)))
	return d[p%256/8]&(1<<(p%8)) != 0
}

// modelRound takes a place through the round r.
func modelRound(r byte, i, n uint64, seed api.Root) uint64 {
	flip := (modelPivot(r, n, seed) + n - i) % n
	if modelBit(r, max(i, flip), seed) {
		return flip
	}
	return i
}

func modelIndex(i, n uint64, seed api.Root) uint64 {
	for r := range byte(5) {
		i = modelRound(r, i, n, seed)
	}
	return i
}

func modelSeed(s api.State, epoch, kind uint64) api.Root {
	mix := s.Mixes[(epoch%8+8-2)%8]
	return api.Root(sha256.Sum256(slices.Concat(little(kind, 4), little(epoch, 8), mix[:])))
}

// modelLot is the byte that the try i is held against.
func modelLot(i uint64, seed api.Root) byte {
	d := sha256.Sum256(slices.Concat(seed[:], little(i/32, 8)))
	return d[i%32]
}

// modelLeast is the least effective balance that a lot takes.
func modelLeast(lot byte) uint64 { return (32000*uint64(lot) + 254) / 255 }

// modelProposer answers besides at which try the call ends.
func modelProposer(s api.State, some []uint64, seed api.Root) (uint64, api.Errno, uint64) {
	n := uint64(len(some))
	for i := uint64(0); i < 4096 && n != 0; i++ {
		c := some[modelIndex(i%n, n, seed)]
		if c >= uint64(len(s.Validators)) {
			return 0, api.ErrRange, i
		}
		if s.Validators[c].Effective >= modelLeast(modelLot(i, seed)) {
			return c, api.OK, i
		}
	}
	return 0, api.ErrEmpty, 4096
}
