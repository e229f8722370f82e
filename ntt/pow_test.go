package ntt_test

import (
	"math/rand"
	"testing"

	"anticline/ntt"
)

// bases: nought, one, multiples of the prime and what is near them.
func bases() []uint32 {
	l := []uint32{0, 1, 2, 3, 5, 1 << 16, 1 << 23, prime / 2, prime/2 + 1, 1 << 31, top - 1, top}
	for many := uint32(1); many <= 4; many++ {
		l = append(l, many*prime-1, many*prime, many*prime+1)
	}
	return l
}

// exponents: either end of what is promised, and where bits begin.
func exponents() []int {
	l := []int{0, 7, 119, prime - 2, prime - 1, prime, 2*prime - 2, 7*prime - 7}
	for k := range 41 {
		l = append(l, 1<<k, 1<<k-1)
	}
	for _, n := range l {
		l = append(l, -n)
	}
	return l
}

func TestP801PowByHand(t *testing.T) {
	for _, x := range []struct {
		a    uint32
		n    int
		want uint32
	}{
		{2, 0, 1}, {2, 1, 2}, {2, 10, 1024}, {2, 29, 536870912}, {2, 30, 75497471}, {2, -1, 499122177}, {2, -2, 748683265},
		{3, (prime - 1) / 2, prime - 1}, {3, prime - 1, 1}, {3, -1, 332748118}, {5, prime, 5}, {prime - 1, 2, 1}, {prime - 1, -1, prime - 1},
		{prime - 1, farthest - 1, prime - 1}, {prime - 1, -farthest, 1}, {prime + 3, 2, 9}, {2*prime - 1, 3, prime - 1}, {4*prime + 2, 10, 1024},
		{top, 1, 301989883}, {top, 0, 1},
	} {
		expectPow(t, x.a, x.n, x.want)
	}
}

func TestP801PowStepByStep(t *testing.T) {
	for _, a := range append(bases(), 6, 7, 8, 9, 10) {
		up, down := uint32(1), uint32(1)
		inverse := bigPower(a, -1)
		for n := range 300 {
			expectPow(t, a, n, up)
			expectPow(t, a, -n, down)
			up, down = mul(up, a%prime), mul(down, inverse)
		}
	}
}

func TestP801PowByAnotherWay(t *testing.T) {
	r := rand.New(rand.NewSource(1))
	for _, a := range bases() {
		for _, n := range exponents() {
			expectPow(t, a, n, bigPower(a, n))
		}
	}
	for range 4000 {
		a, n := r.Uint32(), r.Intn(2*farthest+1)-farthest
		expectPow(t, a, n, bigPower(a, n))
		n >>= r.Intn(41) // shorter ones, too
		expectPow(t, a, n, bigPower(a, n))
	}
}

func TestP801PowOfOne(t *testing.T) {
	for _, n := range exponents() {
		for many := range uint32(5) {
			expectPow(t, many*prime+1, n, 1)
		}
	}
}

// To the power 0 anything is 1, to another one a multiple of the prime is 0:
// its inverse is 0, too.
func TestP801PowOfMultiplesOfThePrime(t *testing.T) {
	for many := range uint32(5) {
		for _, n := range exponents() {
			want := uint32(0)
			if n == 0 {
				want = 1
			}
			expectPow(t, many*prime, n, want)
		}
	}
}

func TestP801PowOfThePrimeAndMore(t *testing.T) {
	r := rand.New(rand.NewSource(2))
	for range 500 {
		a, n := uint32(r.Intn(prime)), r.Intn(2*farthest+1)-farthest
		want := ntt.Pow(a, n)
		for more := uint64(a); more <= top; more += prime {
			expectPow(t, uint32(more), n, want)
		}
	}
}

// The rules of powers, as far as they are promised.
func TestP801PowRules(t *testing.T) {
	r := rand.New(rand.NewSource(3))
	for range 1000 {
		a, b := 1+uint32(r.Intn(prime-1)), 1+uint32(r.Intn(prime-1))
		m, n := r.Intn(farthest)-farthest/2, r.Intn(farthest)-farthest/2
		expectPow(t, a, m+n, mul(ntt.Pow(a, m), ntt.Pow(a, n)))
		expectPow(t, mul(a, b), n, mul(ntt.Pow(a, n), ntt.Pow(b, n)))
		expectPow(t, a, -n, ntt.Pow(ntt.Pow(a, n), -1))
		expectPow(t, a, n%(prime-1), ntt.Pow(a, n))
	}
}
