package ntt_test

import (
	"encoding/binary"
	"math/big"
	"math/rand"
	"slices"
	"testing"

	"anticline/api"
	"anticline/ntt"
)

// The document's numbers, not the program's.
const (
	prime     = 998244353
	maxPoints = 1024
	maxBoth   = 1025
	top       = 1<<32 - 1
	farthest  = 1 << 40
)

func lengths() []int {
	return []int{1, 2, 4, 8, 16, 32, 64, 128, 256, 512, 1024}
}

// bigPower goes by way of math/big, whose inverse is Euclid's.
func bigPower(a uint32, n int) uint32 {
	p, v := big.NewInt(prime), big.NewInt(int64(a))
	if n < 0 {
		if a%prime == 0 {
			return 0
		}
		v.ModInverse(v, p)
		n = -n
	}
	return uint32(v.Exp(v, big.NewInt(int64(n)), p).Uint64())
}

func mul(a, b uint32) uint32 {
	return uint32(uint64(a) * uint64(b) % prime)
}

// sums are those of the chapter, word by word.
func sums(l []uint32, back bool) []uint32 {
	n := len(l)
	w, part := bigPower(3, (prime-1)/n), uint32(1)
	if back {
		w, part = bigPower(w, -1), bigPower(uint32(n), -1)
	}
	powers := []uint32{1}
	for len(powers) < n {
		powers = append(powers, mul(powers[len(powers)-1], w))
	}
	answer := make([]uint32, n)
	for k := range answer {
		sum := uint64(0)
		for j, v := range l {
			sum += uint64(mul(v, powers[j*k%n]))
		}
		answer[k] = mul(uint32(sum%prime), part)
	}
	return answer
}

// slot is bytes enough for a coefficient: 1024 times the square of a remainder.
const slot = 9

// product puts coefficients into one big number each, which are multiplied.
func product(a, b []uint32) []uint32 {
	l := make([]uint32, len(a)+len(b)-1)
	v := new(big.Int).Mul(inSlots(a), inSlots(b)).FillBytes(make([]byte, slot*len(l)))
	p, c := big.NewInt(prime), new(big.Int)
	for k := range l {
		at := len(v) - slot*(k+1)
		l[k] = uint32(c.Mod(c.SetBytes(v[at:at+slot]), p).Uint64())
	}
	return l
}

func inSlots(l []uint32) *big.Int {
	v := make([]byte, slot*len(l))
	for k, c := range l {
		binary.BigEndian.PutUint32(v[len(v)-slot*k-4:], c)
	}
	return new(big.Int).SetBytes(v)
}

func oneByOne(a, b []uint32) []uint32 {
	l := make([]uint32, len(a))
	for k := range l {
		l[k] = mul(a[k], b[k])
	}
	return l
}

func thrown(r *rand.Rand, n int) []uint32 {
	l := make([]uint32, n)
	for k := range l {
		l[k] = uint32(r.Intn(prime))
	}
	return l
}

// some: lists of one length, of all sorts of remainders.
func some(r *rand.Rand, n int) [][]uint32 {
	sparse, edges, small := make([]uint32, n), make([]uint32, n), make([]uint32, n)
	for range 1 + n/8 {
		sparse[r.Intn(n)] = uint32(r.Intn(prime))
	}
	for k := range n {
		edges[k] = []uint32{0, 1, prime - 1, prime / 2}[r.Intn(4)]
		small[k] = uint32(r.Intn(10))
	}
	return [][]uint32{
		thrown(r, n), thrown(r, n), sparse, edges, small, make([]uint32, n),
		slices.Repeat([]uint32{1}, n), slices.Repeat([]uint32{prime - 1}, n),
	}
}

// of goes through all lists of n of a few numbers.
func of(few []uint32, n int, then func(l []uint32)) {
	l := make([]uint32, n)
	var fill func(k int)
	fill = func(k int) {
		if k == n {
			then(l)
			return
		}
		for _, v := range few {
			l[k] = v
			fill(k + 1)
		}
	}
	fill(0)
}

// none: what is no remainder.
func none() []uint32 {
	return []uint32{prime, prime + 1, 2 * prime, 2*prime + 5, 1 << 31, 4 * prime, top}
}

func with(l []uint32, k int, v uint32) []uint32 {
	l = slices.Clone(l)
	l[k] = v
	return l
}

func padded(l []uint32, n int) []uint32 {
	return append(slices.Clone(l), make([]uint32, n-len(l))...)
}

// short cuts a list for a message.
func short(l []uint32) []uint32 {
	return l[:min(len(l), 8)]
}

func expectPow(t *testing.T, a uint32, n int, want uint32) {
	t.Helper()
	if got := ntt.Pow(a, n); got != want {
		t.Fatalf("Pow(%d, %d): %d, not %d", a, n, got, want)
	}
}

func transform(t *testing.T, l []uint32, back bool) []uint32 {
	t.Helper()
	got, e := ntt.Transform(l, back)
	if e != api.OK {
		t.Fatalf("Transform of %d, %v .., back %v: %v", len(l), short(l), back, e)
	}
	return got
}

func expectTransform(t *testing.T, l []uint32, back bool, want []uint32) {
	t.Helper()
	if got := transform(t, l, back); !slices.Equal(got, want) {
		t.Fatalf("Transform of %d, %v .., back %v: %v .., not %v ..", len(l), short(l), back, short(got), short(want))
	}
}

// expectNoTransform asks for no numbers beside the error, too (P4).
func expectNoTransform(t *testing.T, l []uint32, want api.Errno) {
	t.Helper()
	for _, back := range []bool{false, true} {
		if got, e := ntt.Transform(l, back); e != want || len(got) != 0 {
			t.Fatalf("Transform of %d, %v .., back %v: %v and %d numbers, not %v", len(l), short(l), back, e, len(got), want)
		}
	}
}

func conv(t *testing.T, a, b []uint32) []uint32 {
	t.Helper()
	got, e := ntt.Conv(a, b)
	if e != api.OK {
		t.Fatalf("Conv of %d, %v .., and %d, %v ..: %v", len(a), short(a), len(b), short(b), e)
	}
	return got
}

func expectConv(t *testing.T, a, b, want []uint32) {
	t.Helper()
	if got := conv(t, a, b); !slices.Equal(got, want) {
		t.Fatalf("Conv of %d, %v .., and %d, %v ..: %d, %v .., not %d, %v ..", len(a), short(a), len(b), short(b), len(got), short(got), len(want), short(want))
	}
}

// expectNoConv asks either way about, and for no numbers beside the error (P4).
func expectNoConv(t *testing.T, a, b []uint32, want api.Errno) {
	t.Helper()
	for range 2 {
		if got, e := ntt.Conv(a, b); e != want || len(got) != 0 {
			t.Fatalf("Conv of %d, %v .., and %d, %v ..: %v and %d numbers, not %v", len(a), short(a), len(b), short(b), e, len(got), want)
		}
		a, b = b, a
	}
}
