package nat_test

import (
	"math/big"
	"math/rand"
	"slices"
	"testing"

	"anticline/nat"
)

const top = 1<<32 - 1 // the greatest limb

// toBig reads limbs by way of math/big, which knows nothing of package nat.
func toBig(a []uint32) *big.Int {
	bytes := make([]byte, 0, 4*len(a))
	for i := len(a) - 1; i >= 0; i-- {
		bytes = append(bytes, byte(a[i]>>24), byte(a[i]>>16), byte(a[i]>>8), byte(a[i]))
	}
	return new(big.Int).SetBytes(bytes)
}

func fromBig(v *big.Int) []uint32 {
	bytes := v.Bytes()
	a := make([]uint32, (len(bytes)+3)/4)
	for i, b := range bytes {
		at := len(bytes) - 1 - i
		a[at/4] |= uint32(b) << (at % 4 * 8)
	}
	return a
}

// same holds limbs one by one against what math/big says.
func same(t *testing.T, what string, got []uint32, want *big.Int) {
	t.Helper()
	if !slices.Equal(got, fromBig(want)) {
		t.Fatalf("%s: got %v, want %v", what, got, want)
	}
}

// thrown is a number of at most so many limbs, with many limbs at the edges.
func thrown(r *rand.Rand, most int) []uint32 {
	a := make([]uint32, r.Intn(most+1))
	for i := range a {
		a[i] = []uint32{0, 0, 1, 1 << 31, 1<<31 - 1, top, top, top - 1, r.Uint32(), r.Uint32()}[r.Intn(10)]
	}
	for len(a) > 0 && a[len(a)-1] == 0 {
		a = a[:len(a)-1]
	}
	return a
}

// long is a number of just so many limbs.
func long(r *rand.Rand, n int) []uint32 {
	a := make([]uint32, n)
	for i := range a {
		a[i] = r.Uint32()
	}
	a[n-1] |= 1
	return a
}

func full(n int) []uint32 {
	return slices.Repeat([]uint32{top}, n)
}

// edges: numbers at which carries, borrows and guessed digits go wrong first.
func edges() [][]uint32 {
	return [][]uint32{
		nil,
		{1}, {2}, {3}, {10}, {1 << 31}, {top - 1}, {top},
		{0, 1}, {1, 1}, {0, 1 << 31}, {1, 1 << 31}, {top, 1<<31 - 1}, {top, top}, {top - 1, top},
		{0, 0, 1}, {1, 0, 1}, {0, 0, 1 << 31}, {top, 0, 1 << 31}, {0, top, 1 << 31}, {0, top - 1, top}, {top, top, top},
		{0, 0, 0, 1}, {top, top, top, 1}, {0, 0, 1 << 31, 1<<31 - 1}, {3, 0, 1 << 31}, {0, 0, 1 << 31, 1 << 31}, {top, 0, 0, top},
		{0, 0, 0, 0, 0, 1}, full(7), {0, 0, 0, top, 0, 0, top},
	}
}

func pow2(k int) []uint32 {
	a := make([]uint32, k/32+1)
	a[k/32] = 1 << (k % 32)
	return a
}

func mustRight(t *testing.T, what string, lists ...[]uint32) {
	t.Helper()
	for _, l := range lists {
		if !nat.Right(l) {
			t.Fatalf("%s: %v is not right", what, l)
		}
	}
}
