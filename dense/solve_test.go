package dense_test

import (
	"math/big"
	"math/rand"
	"testing"

	"anticline/api"
	"anticline/dense"
)

func expectSingular(t *testing.T, m matrix, b vector) {
	t.Helper()
	if x, e := dense.Solve(m, b); e != api.ErrOne || len(x) != 0 {
		t.Fatalf("Solve: %v and %v, not %v: of %s", x, e, api.ErrOne, words(append(m, b)...))
	}
}

func expectSolved(t *testing.T, m matrix, b vector) vector {
	t.Helper()
	x, e := dense.Solve(m, b)
	if e != api.OK {
		t.Fatalf("Solve: %v: of %s", e, words(append(m, b)...))
	}
	expectVector(t, "what Solve answers, sent by the matrix", bigApply(m, x), b, append(m, b)...)
	return x
}

// expectSolve: the right sides are one that the matrix sends something to,
// nought, and any.
func expectSolve(t *testing.T, r *rand.Rand, m matrix, by thrower) {
	t.Helper()
	n := len(m)
	v := thrownVector(r, n, by)
	sides := matrix{bigApply(m, v), noughts(n)[0], thrownVector(r, n, by)}
	if bigRank(m) < n {
		for _, b := range sides {
			expectSingular(t, m, b)
		}
		return
	}
	expectVector(t, "Solve", expectSolved(t, m, sides[0]), v, m...)
	expectVector(t, "Solve", expectSolved(t, m, sides[1]), sides[1], m...)
	expectSolved(t, m, sides[2])
}

func TestP701Solve(t *testing.T) {
	t.Parallel()
	r := rand.New(rand.NewSource(20))
	for _, m := range matrices(20) {
		expectSolve(t, r, m, small)
		if len(m) <= 6 {
			expectSolve(t, r, m, long)
		}
	}
}

// Each matrix of two rows of few small numbers, and Cramer's rule.
func TestP701SolveAllSmallOfSizeTwo(t *testing.T) {
	t.Parallel()
	all(2, 2, func(v []int64) {
		m := rowsOf(2, v)
		det := v[0]*v[3] - v[1]*v[2]
		for _, b := range [][]int64{{0, 0}, {1, 0}, {0, 1}, {1, 1}, {2, -3}} {
			if det == 0 {
				expectSingular(t, m, ints(b...))
				continue
			}
			x := expectSolved(t, m, ints(b...))
			expectVector(t, "Solve", x, vector{fraction(b[0]*v[3]-b[1]*v[1], det), fraction(b[1]*v[0]-b[0]*v[2], det)}, m...)
		}
	})
}

func TestP701SolveSizeOne(t *testing.T) {
	t.Parallel()
	r := rand.New(rand.NewSource(21))
	few := append(thrownVector(r, 16, long), fraction(0, 1), fraction(1, 1), fraction(-22, 7))
	for _, a := range few {
		for _, b := range few {
			if len(a.N) == 0 {
				expectSingular(t, matrix{{a}}, vector{b})
				continue
			}
			x := expectSolved(t, matrix{{a}}, vector{b})
			expect(t, "Solve", x[0], given(new(big.Rat).Quo(bigOf(b), bigOf(a))))
		}
	}
}

// Of each size and each rank below it.
func TestP701SolveSingular(t *testing.T) {
	t.Parallel()
	r := rand.New(rand.NewSource(22))
	for n := 1; n <= maxSize; n++ {
		for rank := range n {
			m := ofRank(r, n, rank)
			expectSingular(t, m, bigApply(m, thrownVector(r, n, small)))
			expectSingular(t, m, noughts(n)[0])
			expectSingular(t, m, thrownVector(r, n, small))
		}
	}
}

// Only the first leading minors are nought, the determinant is not.
func TestP701SolveWhereLeadingMinorsAreNought(t *testing.T) {
	t.Parallel()
	r := rand.New(rand.NewSource(23))
	for n := 2; n <= maxSize; n++ {
		order, _ := exchanged(r.Perm(n))
		b := thrownVector(r, n, long)
		x := expectSolved(t, order, b)
		expectVector(t, "Solve", x, bigApply(flipped(order), b), order...)
		for k := 1; k < n; k++ {
			expectSolved(t, firstNoughts(r, n, k), thrownVector(r, n, small))
		}
	}
}

func TestP701SolveOfLongNumbers(t *testing.T) {
	t.Parallel()
	r := rand.New(rand.NewSource(24))
	for _, c := range []struct{ n, limbs int }{{1, 1500}, {2, 200}, {3, 60}, {5, 20}, {8, 4}, {16, 1}} {
		m := thrown(r, c.n, sized(c.limbs))
		expectSolved(t, m, thrownVector(r, c.n, sized(c.limbs)))
		expectSolved(t, m, thrownVector(r, c.n, small))
		short := thrown(r, c.n, small)
		for bigRank(short) < c.n {
			short = thrown(r, c.n, small)
		}
		expectSolved(t, short, thrownVector(r, c.n, sized(c.limbs)))
	}
}
