package ntt_test

import (
	"math/rand"
	"slices"
	"testing"
)

func TestP802BackItIsAsItWas(t *testing.T) {
	t.Parallel()
	r := rand.New(rand.NewSource(30))
	for _, n := range lengths() {
		for range 20 {
			for _, l := range some(r, n) {
				expectTransform(t, transform(t, l, false), true, l)
				expectTransform(t, transform(t, l, true), false, l)
			}
		}
	}
}

func TestP802BackItIsAsItWasAllSmall(t *testing.T) {
	t.Parallel()
	for _, n := range []int{1, 2, 4} {
		of([]uint32{0, 1, 2, 3, prime - 1}, n, func(l []uint32) {
			expectTransform(t, transform(t, l, false), true, l)
			expectTransform(t, transform(t, l, true), false, l)
		})
	}
}

// Polynomials are filled up with noughts so far that the product has room.
func TestP802TransformOfAProduct(t *testing.T) {
	t.Parallel()
	r := rand.New(rand.NewSource(31))
	for _, n := range lengths() {
		for range 30 {
			many := 1 + r.Intn(n)
			a, b := thrown(r, many), thrown(r, n+1-many)
			whole := padded(conv(t, a, b), n)
			if !slices.Equal(whole, product(a, b)) {
				t.Fatalf("Conv of %v .. and %v ..", short(a), short(b))
			}
			a, b = transform(t, padded(a, n), false), transform(t, padded(b, n), false)
			expectTransform(t, whole, false, oneByOne(a, b))
			expectTransform(t, oneByOne(a, b), true, whole)
		}
	}
}

// round is the product of lists that go round: place n is place 0 again.
func round(a, b []uint32) []uint32 {
	l := make([]uint32, len(a))
	for k, v := range product(a, b) {
		l[k%len(l)] = (l[k%len(l)] + v) % prime
	}
	return l
}

// Where there is no room for the product, it is the one that goes round.
func TestP802TransformOfAProductThatGoesRound(t *testing.T) {
	t.Parallel()
	r := rand.New(rand.NewSource(32))
	for _, n := range lengths() {
		lists := append(some(r, n), some(r, n)...)
		for _, a := range lists {
			b := lists[r.Intn(len(lists))]
			want := oneByOne(transform(t, a, false), transform(t, b, false))
			expectTransform(t, round(a, b), false, want)
			expectTransform(t, want, true, round(a, b))
		}
	}
}

// What Conv answers is the only list whose transform is that of both, one by
// one: told by the program's own calls alone.
func TestP802ConvByTransforms(t *testing.T) {
	t.Parallel()
	r := rand.New(rand.NewSource(33))
	for both := 2; both <= maxBoth; both += 1 + both/20 {
		a := thrown(r, 1+r.Intn(both-1))
		b := thrown(r, both-len(a))
		n := 1
		for n < both-1 {
			n *= 2
		}
		sums := oneByOne(transform(t, padded(a, n), false), transform(t, padded(b, n), false))
		expectConv(t, a, b, transform(t, sums, true)[:both-1])
	}
}
