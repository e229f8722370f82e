package dense_test

import (
	"math/big"
	"math/rand"
	"slices"
	"testing"

	"anticline/api"
	"anticline/dense"
)

func expectDet(t *testing.T, m matrix, want api.Rat) {
	t.Helper()
	expect(t, "Det", dense.Det(m), want, m...)
}

func expectRank(t *testing.T, m matrix, want int) {
	t.Helper()
	if rank := dense.Rank(m); rank != want {
		t.Fatalf("Rank: %d, not %d: of %s", rank, want, words(m...))
	}
}

func expectMinors(t *testing.T, m matrix, want vector) {
	t.Helper()
	expectVector(t, "Minors", dense.Minors(m), want, m...)
	expectDet(t, m, want[len(m)-1])
}

func TestP701DetRankMinorsByAnotherWay(t *testing.T) {
	t.Parallel()
	for _, m := range matrices(10) {
		expectMinors(t, m, bigMinors(m))
		expectRank(t, m, bigRank(m))
	}
}

func TestP701SizeOne(t *testing.T) {
	t.Parallel()
	r := rand.New(rand.NewSource(11))
	for _, a := range append(thrownVector(r, 40, long), fraction(0, 1), fraction(1, 1), fraction(-22, 7), sized(4000)(r)) {
		m := matrix{{a}}
		expectMinors(t, m, vector{a})
		rank := 1
		if len(a.N) == 0 {
			rank = 0
		}
		expectRank(t, m, rank)
	}
}

// all goes through all matrices of size n of numbers from -most to most.
func all(n, most int, then func(v []int64)) {
	v := make([]int64, n*n)
	var fill func(k int)
	fill = func(k int) {
		if k == len(v) {
			then(v)
			return
		}
		for v[k] = -int64(most); v[k] <= int64(most); v[k]++ {
			fill(k + 1)
		}
	}
	fill(0)
}

func rowsOf(n int, v []int64) matrix {
	var m matrix
	for row := range slices.Chunk(v, n) {
		m = append(m, ints(row...))
	}
	return m
}

func TestP701AllSmallOfSizeTwo(t *testing.T) {
	t.Parallel()
	all(2, 3, func(v []int64) {
		m := rowsOf(2, v)
		det := v[0]*v[3] - v[1]*v[2]
		expectMinors(t, m, ints(v[0], det))
		switch {
		case det != 0:
			expectRank(t, m, 2)
		case v[0]|v[1]|v[2]|v[3] != 0:
			expectRank(t, m, 1)
		default:
			expectRank(t, m, 0)
		}
	})
}

// The rule of Sarrus tells determinants; the rank is 1 if all minors of two
// rows and two columns are nought.
func TestP701AllSmallOfSizeThree(t *testing.T) {
	t.Parallel()
	all(3, 1, func(v []int64) {
		m := rowsOf(3, v)
		det, rank := int64(0), 0
		for j := range 3 {
			k, l := (j+1)%3, (j+2)%3
			det += v[j]*v[3+k]*v[6+l] - v[j]*v[3+l]*v[6+k]
		}
		for i := range 9 {
			for j := range 9 {
				if v[i] != 0 {
					rank = max(rank, 1)
				}
				if v[i]*v[j] != v[i/3*3+j%3]*v[j/3*3+i%3] {
					rank = max(rank, 2)
				}
			}
		}
		if det != 0 {
			rank = 3
		}
		expectMinors(t, m, ints(v[0], v[0]*v[4]-v[1]*v[3], det))
		expectRank(t, m, rank)
	})
}

func TestP701EachRankOfEachSize(t *testing.T) {
	t.Parallel()
	r := rand.New(rand.NewSource(12))
	for n := 1; n <= maxSize; n++ {
		for rank := range n + 1 {
			m := ofRank(r, n, rank)
			expectRank(t, m, rank)
			if rank < n {
				expectDet(t, m, fraction(0, 1))
			}
		}
	}
}

// exchanged is a row of ones, from corner to corner, in which rows were
// exchanged; sign is its determinant.
func exchanged(order []int) (m matrix, sign int64) {
	sign = 1
	for k, i := range order {
		m = append(m, ones(len(order))[i])
		for _, ahead := range order[:k] {
			if ahead > i {
				sign = -sign
			}
		}
	}
	return m, sign
}

func expectExchanged(t *testing.T, order []int) {
	t.Helper()
	m, sign := exchanged(order)
	minors := noughts(len(m))[0]
	for k := range order {
		if slices.Max(order[:k+1]) == k {
			_, sign := exchanged(order[:k+1])
			minors[k] = fraction(sign, 1)
		}
	}
	expectMinors(t, m, minors)
	expectDet(t, m, fraction(sign, 1))
	expectRank(t, m, len(m))
}

// Whichever leading minors are nought, the others are told, with their sign.
func TestP701ExchangedRows(t *testing.T) {
	t.Parallel()
	r := rand.New(rand.NewSource(13))
	for n := 1; n <= maxSize; n++ {
		for range 12 {
			expectExchanged(t, r.Perm(n))
		}
	}
	for a := range 256 { // each row of four, some of them no order
		order := []int{a % 4, a / 4 % 4, a / 16 % 4, a / 64}
		if len(slices.Compact(slices.Sorted(slices.Values(order)))) == 4 {
			expectExchanged(t, order)
		}
	}
}

// nodes are numbers of which no two are the same.
func nodes(r *rand.Rand, n int, by thrower) vector {
	var l vector
	for len(l) < n {
		a := by(r)
		if !slices.ContainsFunc(l, func(b api.Rat) bool { return equal(a, b) }) {
			l = append(l, a)
		}
	}
	return l
}

func difference(a, b api.Rat) *big.Rat {
	return new(big.Rat).Sub(bigOf(a), bigOf(b))
}

// throwersFor: of longer numbers where matrices are small.
func throwersFor(n int) []thrower {
	few := func(r *rand.Rand) api.Rat { return fraction(int64(r.Intn(99)-49), int64(1+r.Intn(6))) }
	switch {
	case n <= 4:
		return []thrower{few, long, sized(20)}
	case n <= 8:
		return []thrower{few, long}
	}
	return []thrower{few, sized(1)}
}

// The determinant of powers is the product of all differences of nodes.
func TestP701MinorsOfPowers(t *testing.T) {
	t.Parallel()
	r := rand.New(rand.NewSource(14))
	for n := 1; n <= maxSize; n++ {
		for _, by := range throwersFor(n) {
			x := nodes(r, n, by)
			m := filled(n, func(i, j int) api.Rat {
				power := big.NewRat(1, 1)
				for range j {
					power.Mul(power, bigOf(x[i]))
				}
				return given(power)
			})
			product := big.NewRat(1, 1)
			minors := make(vector, n)
			for k := range n {
				for i := range k {
					product.Mul(product, difference(x[k], x[i]))
				}
				minors[k] = given(product)
			}
			expectMinors(t, m, minors)
			expectRank(t, m, n)
		}
	}
}

// Cauchy's rule: all differences within either row of nodes, over all of one
// from another row.
func TestP701MinorsOfDifferences(t *testing.T) {
	t.Parallel()
	r := rand.New(rand.NewSource(15))
	for n := 1; n <= maxSize; n++ {
		for _, by := range throwersFor(n) {
			x := nodes(r, 2*n, by)
			x, y := x[:n], x[n:]
			m := filled(n, func(i, j int) api.Rat { return given(new(big.Rat).Inv(difference(x[i], y[j]))) })
			product := big.NewRat(1, 1)
			minors := make(vector, n)
			for k := range n {
				for i := range k {
					product.Mul(product, new(big.Rat).Mul(difference(x[k], x[i]), difference(y[i], y[k])))
					product.Quo(product, new(big.Rat).Mul(difference(x[k], y[i]), difference(x[i], y[k])))
				}
				product.Quo(product, difference(x[k], y[k]))
				minors[k] = given(product)
			}
			expectMinors(t, m, minors)
			expectRank(t, m, n)
		}
	}
}

// Of two triangles the product's leading minors are those of what stands from
// corner to corner.
func TestP701MinorsOfTwoTriangles(t *testing.T) {
	t.Parallel()
	r := rand.New(rand.NewSource(16))
	for n := 1; n <= maxSize; n++ {
		for _, by := range append(throwersFor(n), sparse) {
			lower, upper := thrown(r, n, by), thrown(r, n, by)
			product := big.NewRat(1, 1)
			minors := make(vector, n)
			for i := range n {
				copy(upper[i], noughts(n)[0][:i])
				copy(lower[i][i+1:], noughts(n)[0])
				product.Mul(product, bigOf(upper[i][i]))
				product.Mul(product, bigOf(lower[i][i]))
				minors[i] = given(product)
			}
			expectMinors(t, bigMul(lower, upper), minors)
		}
	}
}

func TestP701DetOfLongNumbers(t *testing.T) {
	t.Parallel()
	r := rand.New(rand.NewSource(17))
	for _, c := range []struct{ n, limbs int }{{2, 500}, {3, 100}, {6, 20}} {
		m := thrown(r, c.n, sized(c.limbs))
		expectMinors(t, m, bigMinors(m))
		expectRank(t, m, c.n)
		m[c.n-1] = added(m[0], m[1], fraction(3, 5))
		m[0] = m[c.n-1]
		expectRank(t, m, c.n-1)
		expectDet(t, m, fraction(0, 1))
	}
}
