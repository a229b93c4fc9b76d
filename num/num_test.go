package num_test

import (
	"bytes"
	"math"
	"math/big"
	"slices"
	"testing"

	"keystone/num"
)

// edges are numbers beside which carries, borrows and roots go wrong first.
func edges() []uint64 {
	l := []uint64{3, 5, 6, 7, 10, 15, 255, 256, 257, 258, 999, 1000, 32000, 0x0102030405060708, 0x8877665544332211, 12297829382473034410}
	for shift := range 64 {
		p := uint64(1) << shift
		l = append(l, p-1, p, p+1, -p)
	}
	for _, r := range []uint64{1000003, 3037000499, 3037000500, 4294967291, 4294967295} {
		l = append(l, r, r*r-1, r*r, r*r+1)
	}
	l = append(l, math.MaxUint64-1, math.MaxUint64)
	slices.Sort(l)
	return slices.Compact(l)
}

func large(n uint64) *big.Int { return new(big.Int).SetUint64(n) }

// check holds a checked answer against the exact one.
func check(t *testing.T, name string, a, b, got uint64, ok bool, exact *big.Int) {
	t.Helper()
	if !exact.IsUint64() {
		if ok || got != 0 {
			t.Errorf("%s(%d, %d) = %d, %v; want 0, false", name, a, b, got, ok)
		}
		return
	}
	if !ok || got != exact.Uint64() {
		t.Errorf("%s(%d, %d) = %d, %v; want %d, true", name, a, b, got, ok, exact)
	}
}

// P1.1: Add, Sub, Mul are exact, or answer 0 and false.
func TestCheckedAgainstExact(t *testing.T) {
	all := edges()
	for _, a := range all {
		for _, b := range all {
			x, y := large(a), large(b)
			got, ok := num.Add(a, b)
			check(t, "Add", a, b, got, ok, new(big.Int).Add(x, y))
			got, ok = num.Sub(a, b)
			check(t, "Sub", a, b, got, ok, new(big.Int).Sub(x, y))
			got, ok = num.Mul(a, b)
			check(t, "Mul", a, b, got, ok, new(big.Int).Mul(x, y))
		}
	}
}

// P1.1: the same, with answers written out.
func TestCheckedByHand(t *testing.T) {
	const top = math.MaxUint64
	tests := []struct {
		name string
		call func(a, b uint64) (uint64, bool)
		a, b uint64
		want uint64
		ok   bool
	}{
		{"Add", num.Add, 0, 0, 0, true},
		{"Add", num.Add, 2, 3, 5, true},
		{"Add", num.Add, top, 0, top, true},
		{"Add", num.Add, 0, top, top, true},
		{"Add", num.Add, top - 1, 1, top, true},
		{"Add", num.Add, 1 << 63, 1<<63 - 1, top, true},
		{"Add", num.Add, top, 1, 0, false},
		{"Add", num.Add, 1, top, 0, false},
		{"Add", num.Add, 1 << 63, 1 << 63, 0, false},
		{"Add", num.Add, 1 << 63, 1<<63 + 5, 0, false},
		{"Add", num.Add, top, top, 0, false},
		{"Sub", num.Sub, 0, 0, 0, true},
		{"Sub", num.Sub, 5, 3, 2, true},
		{"Sub", num.Sub, top, top, 0, true},
		{"Sub", num.Sub, top, 0, top, true},
		{"Sub", num.Sub, 3, 5, 0, false},
		{"Sub", num.Sub, 0, 1, 0, false},
		{"Sub", num.Sub, 0, top, 0, false},
		{"Sub", num.Sub, top - 1, top, 0, false},
		{"Mul", num.Mul, 0, top, 0, true},
		{"Mul", num.Mul, top, 0, 0, true},
		{"Mul", num.Mul, 1, top, top, true},
		{"Mul", num.Mul, 6, 7, 42, true},
		{"Mul", num.Mul, 1<<32 - 1, 1<<32 + 1, top, true},
		{"Mul", num.Mul, 1 << 31, 1 << 32, 1 << 63, true},
		{"Mul", num.Mul, 1 << 32, 1 << 32, 0, false},
		{"Mul", num.Mul, 1<<32 + 1, 1 << 32, 0, false},
		{"Mul", num.Mul, 1 << 63, 2, 0, false},
		{"Mul", num.Mul, 1<<63 + 1, 2, 0, false},
		{"Mul", num.Mul, top, top, 0, false},
		{"Div", num.Div, 0, 1, 0, true},
		{"Div", num.Div, 7, 2, 3, true},
		{"Div", num.Div, 8, 2, 4, true},
		{"Div", num.Div, 2, 7, 0, true},
		{"Div", num.Div, top, 1, top, true},
		{"Div", num.Div, top, top, 1, true},
		{"Div", num.Div, top - 1, top, 0, true},
		{"Div", num.Div, top, 2, 1<<63 - 1, true},
		{"Div", num.Div, 0, 0, 0, false},
		{"Div", num.Div, 1, 0, 0, false},
		{"Div", num.Div, top, 0, 0, false},
	}
	for _, x := range tests {
		if got, ok := x.call(x.a, x.b); got != x.want || ok != x.ok {
			t.Errorf("%s(%d, %d) = %d, %v; want %d, %v", x.name, x.a, x.b, got, ok, x.want, x.ok)
		}
	}
}

// P1.1: Div rounds down, and refuses 0 alone.
func TestDivRoundsDown(t *testing.T) {
	all := edges()
	for _, a := range all {
		for _, b := range all {
			got, ok := num.Div(a, b)
			if b == 0 {
				if got != 0 || ok {
					t.Errorf("Div(%d, 0) = %d, %v", a, got, ok)
				}
				continue
			}
			check(t, "Div", a, b, got, ok, new(big.Int).Quo(large(a), large(b)))
		}
	}
}

// P1.1: Less stays at 0, Most at 2^64 - 1.
func TestLessAndMost(t *testing.T) {
	all := edges()
	for _, a := range all {
		for _, b := range all {
			less, most := uint64(0), uint64(math.MaxUint64)
			if d := new(big.Int).Sub(large(a), large(b)); d.Sign() > 0 {
				less = d.Uint64()
			}
			if s := new(big.Int).Add(large(a), large(b)); s.IsUint64() {
				most = s.Uint64()
			}
			if got := num.Less(a, b); got != less {
				t.Errorf("Less(%d, %d) = %d; want %d", a, b, got, less)
			}
			if got := num.Most(a, b); got != most {
				t.Errorf("Most(%d, %d) = %d; want %d", a, b, got, most)
			}
		}
	}
}

// P1.1: Less and Most, with answers written out.
func TestLessAndMostByHand(t *testing.T) {
	const top = math.MaxUint64
	tests := []struct{ a, b, less, most uint64 }{
		{0, 0, 0, 0},
		{3, 5, 0, 8},
		{5, 3, 2, 8},
		{5, 5, 0, 10},
		{0, top, 0, top},
		{top, 0, top, top},
		{top, 1, top - 1, top},
		{top - 1, 1, top - 2, top},
		{top - 2, 1, top - 3, top - 1},
		{1, top, 0, top},
		{top, top, 0, top},
		{1 << 63, 1 << 63, 0, top},
	}
	for _, x := range tests {
		if got := num.Less(x.a, x.b); got != x.less {
			t.Errorf("Less(%d, %d) = %d; want %d", x.a, x.b, got, x.less)
		}
		if got := num.Most(x.a, x.b); got != x.most {
			t.Errorf("Most(%d, %d) = %d; want %d", x.a, x.b, got, x.most)
		}
	}
}

// P1.1: Root, with answers written out.
func TestRootByHand(t *testing.T) {
	tests := []struct{ n, want uint64 }{
		{0, 0}, {1, 1}, {2, 1}, {3, 1}, {4, 2}, {8, 2}, {9, 3}, {15, 3}, {16, 4}, {17, 4},
		{1<<62 - 1, 1<<31 - 1},
		{1 << 62, 1 << 31},
		{1<<63 - 1, 3037000499},
		{1 << 63, 3037000499},
		{18446744065119617024, 1<<32 - 2}, // one below the greatest square
		{18446744065119617025, 1<<32 - 1},
		{18446744065119617026, 1<<32 - 1},
		{math.MaxUint64, 1<<32 - 1},
	}
	for _, x := range tests {
		if got := num.Root(x.n); got != x.want {
			t.Errorf("Root(%d) = %d; want %d", x.n, got, x.want)
		}
	}
}

// P1.1: Root of squares, and of the numbers beside them.
func TestRootBesideSquares(t *testing.T) {
	var roots []uint64
	for r := range uint64(2000) {
		roots = append(roots, r+1)
	}
	for _, e := range edges() {
		if e > 0 && e < 1<<32 {
			roots = append(roots, e)
		}
	}
	for _, r := range roots {
		square := r * r
		if got := num.Root(square - 1); got != r-1 {
			t.Errorf("Root(%d) = %d; want %d", square-1, got, r-1)
		}
		if got := num.Root(square); got != r {
			t.Errorf("Root(%d) = %d; want %d", square, got, r)
		}
		if got := num.Root(square + 1); got != r {
			t.Errorf("Root(%d) = %d; want %d", square+1, got, r)
		}
		if got := num.Root(square + 2*r); got != r {
			t.Errorf("Root(%d) = %d; want %d", square+2*r, got, r)
		}
	}
}

// P1.1: Root against exact arithmetic.
func TestRootAgainstExact(t *testing.T) {
	for _, n := range edges() {
		want := new(big.Int).Sqrt(large(n)).Uint64()
		if got := num.Root(n); got != want {
			t.Errorf("Root(%d) = %d; want %d", n, got, want)
		}
	}
}

// P1.2: Put, with answers written out.
func TestPutByHand(t *testing.T) {
	const n = 0x8877665544332211
	tests := []struct {
		n    uint64
		size int
		want []byte
	}{
		{258, 3, []byte{2, 1, 0}},
		{258, 2, []byte{2, 1}},
		{258, 1, []byte{2}},
		{0, 2, []byte{0, 0}},
		{n, 1, []byte{0x11}},
		{n, 4, []byte{0x11, 0x22, 0x33, 0x44}},
		{n, 7, []byte{0x11, 0x22, 0x33, 0x44, 0x55, 0x66, 0x77}},
		{n, 8, []byte{0x11, 0x22, 0x33, 0x44, 0x55, 0x66, 0x77, 0x88}},
		{n, 9, []byte{0x11, 0x22, 0x33, 0x44, 0x55, 0x66, 0x77, 0x88, 0}},
		{math.MaxUint64, 8, []byte{255, 255, 255, 255, 255, 255, 255, 255}},
		{math.MaxUint64, 12, []byte{255, 255, 255, 255, 255, 255, 255, 255, 0, 0, 0, 0}},
	}
	for _, x := range tests {
		if got := num.Put(x.n, x.size); !bytes.Equal(got, x.want) {
			t.Errorf("Put(%#x, %d) = % x; want % x", x.n, x.size, got, x.want)
		}
	}
}

// P1.2: behind the eighth byte stands 0, however many there are.
func TestPutManyBytes(t *testing.T) {
	for _, size := range []int{16, 17, 32, 64, 65, 72, 256, 257, 1 << 16} {
		got := num.Put(math.MaxUint64, size)
		want := append(bytes.Repeat([]byte{255}, 8), make([]byte, size-8)...)
		if !bytes.Equal(got, want) {
			t.Errorf("Put(2^64 - 1, %d): wrong bytes, or %d of them", size, len(got))
		}
	}
}

// P1.2, P1: no bytes for a size below 1; no panic at one that no memory has.
func TestPutWrongSizes(t *testing.T) {
	for _, size := range []int{0, -1, -8, -1 << 31, math.MinInt, math.MaxInt32 + 1, math.MaxInt} {
		if got := num.Put(math.MaxUint64, size); len(got) != 0 {
			t.Errorf("Put(2^64 - 1, %d): %d bytes; want none", size, len(got))
		}
	}
}

// P1.2: Take, with answers written out.
func TestTakeByHand(t *testing.T) {
	tests := []struct {
		b    []byte
		want uint64
	}{
		{nil, 0},
		{[]byte{}, 0},
		{[]byte{0}, 0},
		{[]byte{7}, 7},
		{[]byte{2, 1}, 258},
		{[]byte{1, 2}, 513},
		{[]byte{2, 1, 0, 0, 0, 0, 0}, 258},
		{[]byte{0, 0, 0, 0, 0, 0, 1}, 1 << 48},
		{[]byte{0, 0, 0, 0, 0, 0, 0, 1}, 1 << 56},
		{[]byte{0x11, 0x22, 0x33, 0x44, 0x55, 0x66, 0x77, 0x88}, 0x8877665544332211},
		{[]byte{0x11, 0x22, 0x33, 0x44, 0x55, 0x66, 0x77, 0x88, 0x99}, 0x8877665544332211},
		{[]byte{0, 0, 0, 0, 0, 0, 0, 0, 1, 2, 3}, 0},
		{bytes.Repeat([]byte{255}, 8), math.MaxUint64},
		{bytes.Repeat([]byte{255}, 100), math.MaxUint64},
	}
	for _, x := range tests {
		if got := num.Take(x.b); got != x.want {
			t.Errorf("Take(% x) = %#x; want %#x", x.b, got, x.want)
		}
	}
}

// P1.2: Take answers what Put was given, as far as the bytes reach.
func TestTakeOfPut(t *testing.T) {
	for _, n := range edges() {
		for size := range 20 {
			want := n
			if size < 8 {
				want = n & (1<<(8*size) - 1)
			}
			if got := num.Take(num.Put(n, size)); got != want {
				t.Errorf("Take(Put(%#x, %d)) = %#x; want %#x", n, size, got, want)
			}
		}
	}
}

// R6: Take neither changes its bytes nor looks into spare room behind them.
func TestTakeLeavesItsBytes(t *testing.T) {
	room := []byte{1, 2, 3, 4, 5, 6, 7, 8, 9, 10}
	if got := num.Take(room[:3]); got != 0x030201 {
		t.Errorf("Take = %#x; want 0x030201", got)
	}
	if !bytes.Equal(room, []byte{1, 2, 3, 4, 5, 6, 7, 8, 9, 10}) {
		t.Errorf("Take changed its bytes: % x", room)
	}
}

// R6, R8: Put's bytes are new each time, spare room too.
func TestPutAnswersNewMemory(t *testing.T) {
	first := num.Put(258, 3)
	for i := range first[:cap(first)] {
		first[:cap(first)][i] = 0xee
	}
	if got := num.Put(258, 3); !bytes.Equal(got, []byte{2, 1, 0}) {
		t.Errorf("Put after its first answer was written over: % x", got)
	}
	second := num.Put(258, 3)
	first[0] = 1
	if second[0] != 2 {
		t.Error("two answers of Put share memory")
	}
}
