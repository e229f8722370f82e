package fast_test

import (
	"math/rand"
	"slices"
	"testing"

	"anticline/api"
	"anticline/fast"
	"anticline/gen"
	"anticline/ntt"
)

func TestP901ApplyBySums(t *testing.T) {
	t.Parallel()
	r := rand.New(rand.NewSource(1))
	for _, g := range all(1) {
		m := tableOf(g)
		for _, by := range throwers() {
			v := thrown(r, g.N, by)
			expectApply(t, g, v, summed(m, v))
		}
	}
}

// By the entries that package gen tells one by one.
func TestP901ApplyByEntries(t *testing.T) {
	t.Parallel()
	r := rand.New(rand.NewSource(2))
	for _, g := range gens(2, small, sparse) {
		v := thrown(r, g.N, small)
		m := expanded(filled(g.N, func(i, j int) api.Rat { return gen.Entry(g, i, j) }))
		expectApply(t, g, v, summed(m, v))
	}
}

// A vector of noughts with a one among them is sent to a column.
func TestP901ApplyToOnes(t *testing.T) {
	t.Parallel()
	for _, g := range all(3) {
		columns := turned(gen.Expand(g))
		for j := range g.N {
			expectApply(t, g, unit(g.N, j), columns[j])
		}
		expectApply(t, g, noughts(g.N), noughts(g.N))
	}
}

// By hand, so that rows and columns can't be mixed up on both sides.
func TestP901ApplyByHand(t *testing.T) {
	t.Parallel()
	half := fraction(1, 2)
	for _, x := range []struct {
		g       api.Gen
		v, want vector
	}{
		{api.Gen{Kind: api.Toep, N: 3, A: ints(1, 2, 3, 4, 5)}, ints(1, 0, -1), ints(2, 2, 2)},
		{api.Gen{Kind: api.Toep, N: 2, A: ints(5, -1, 0)}, ints(2, 3), ints(13, -3)},
		{api.Gen{Kind: api.Hank, N: 3, A: ints(1, 2, 3, 4, 5)}, ints(1, 0, -2), ints(-5, -6, -7)},
		{api.Gen{Kind: api.Circ, N: 3, A: ints(1, 2, 3)}, ints(1, 10, 100), ints(231, 312, 123)},
		{api.Gen{Kind: api.Vand, N: 3, A: vector{fraction(0, 1), fraction(-2, 1), half}}, ints(4, 2, 1), vector{fraction(4, 1), fraction(4, 1), fraction(21, 4)}},
		{api.Gen{Kind: api.Cauchy, N: 2, A: ints(3, 5), B: ints(1, 2)}, ints(1, -4), vector{fraction(-7, 2), fraction(-13, 12)}},
		{api.Gen{Kind: api.ToepGen, N: 2, R: 1, G: ints(1, 2), H: ints(3, 4)}, ints(1, -1), ints(-1, -5)},
		{api.Gen{Kind: api.ToepGen, N: 2, R: 2, G: ints(1, 0, 0, 1), H: ints(2, 3, 4, 5)}, ints(1, 10), ints(42, 73)},
		{api.Gen{Kind: api.CauGen, N: 2, R: 1, A: ints(3, 5), B: ints(1, 2), G: ints(1, 2), H: ints(3, 4)}, ints(2, 3), vector{fraction(15, 1), fraction(11, 1)}},
		{api.Gen{Kind: api.CauGen, N: 1, R: 3, A: ints(0), B: ints(2), G: ints(1, 2, 3), H: ints(4, 5, 6)}, ints(-1), ints(16)},
	} {
		expectApply(t, x.g, x.v, x.want)
	}
}

// The longest numbers that there may be: above and below in a short vector,
// above alone in a long one, one of a single limb among them.
func TestP901ApplyToLongestNumbers(t *testing.T) {
	t.Parallel()
	const longest = 4000 // W1
	r := rand.New(rand.NewSource(4))
	for _, kind := range kinds() {
		rank := ranks(kind)[len(ranks(kind))-1]
		for _, c := range []struct {
			n  int
			by thrower
		}{{1, sized(longest)}, {2, sized(longest)}, {3, sized(500)}, {8, whole(longest)}, {8, sized(100)}} {
			g, v := told(r, kind, c.n, rank, sized(api.MaxLimbs)), thrown(r, c.n, c.by)
			if c.n > 2 {
				v[r.Intn(c.n)] = fraction(-1, 1)
			}
			expectApply(t, g, v, summed(tableOf(g), v))
		}
	}
}

// P9: a vector of another length is refused, not filled up or cut.
func TestP901ApplyLengths(t *testing.T) {
	t.Parallel()
	r := rand.New(rand.NewSource(5))
	for _, g := range all(5) {
		lengths := []int{0, 1, g.N - 1, g.N + 1, 2*g.N - 1, 2 * g.N, 7, 8, 9, 16, 17, 100, 4000}
		for _, n := range lengths {
			if n == g.N {
				continue
			}
			roomy := make(vector, n, n+g.N)
			copy(roomy, thrown(r, n, digit))
			expectLong(t, g, roomy)
			expectLong(t, g, noughts(n))
		}
		expectLong(t, g, nil)
	}
}

func expectLong(t *testing.T, g api.Gen, v vector) {
	t.Helper()
	if x, e := fast.Apply(g, v); e != api.ErrLong || len(x) != 0 {
		t.Fatalf("Apply to %d numbers: %v, %v: %+v", len(v), e, x, g)
	}
}

// remainders are whole numbers that are none below nought.
func remainders(r *rand.Rand, n int) ([]uint32, vector) {
	l, v := make([]uint32, n), make(vector, n)
	for k := range l {
		l[k] = uint32(r.Intn(1000))
		v[k] = fraction(int64(l[k]), 1)
	}
	return l, v
}

// expectRemainders holds an answer of such numbers against sums that are too
// small for the prime to bear on them.
func expectRemainders(t *testing.T, g api.Gen, v vector, want []uint32) {
	t.Helper()
	numbers := make(vector, len(want))
	for k, n := range want {
		numbers[k] = fraction(int64(n), 1)
	}
	expectApply(t, g, v, numbers)
}

// A Toeplitz matrix multiplies polynomials and shows the middle of what comes
// out; a Hankel one takes the second polynomial backwards.
func TestP901ApplyAsConvolution(t *testing.T) {
	t.Parallel()
	r := rand.New(rand.NewSource(6))
	for n := 1; n <= api.MaxSize; n++ {
		for range 50 {
			l, a := remainders(r, 2*n-1)
			k, v := remainders(r, n)
			c, e := ntt.Conv(l, k)
			if e != api.OK {
				t.Fatal(e)
			}
			middle := c[n-1 : 2*n-1]
			expectRemainders(t, api.Gen{Kind: api.Toep, N: n, A: a}, v, middle)
			slices.Reverse(v)
			expectRemainders(t, api.Gen{Kind: api.Hank, N: n, A: a}, v, middle)
		}
	}
}

// A circulant matrix multiplies transforms one by one.
func TestP901ApplyAsTransforms(t *testing.T) {
	t.Parallel()
	r := rand.New(rand.NewSource(7))
	for _, n := range []int{1, 2, 4, 8} {
		for range 50 {
			l, a := remainders(r, n)
			k, v := remainders(r, n)
			first, _ := ntt.Transform(l, false)
			second, _ := ntt.Transform(k, false)
			for i := range first {
				first[i] = uint32(uint64(first[i]) * uint64(second[i]) % api.Prime)
			}
			want, e := ntt.Transform(first, true)
			if e != api.OK {
				t.Fatal(e)
			}
			expectRemainders(t, api.Gen{Kind: api.Circ, N: n, A: a}, v, want)
		}
	}
}
