package dense_test

import (
	"math/big"
	"math/rand"
	"slices"
	"testing"

	"anticline/api"
	"anticline/dense"
	"anticline/rat"
)

// threes: three matrices of one size, of each size, at the edges too.
func threes(seed int64) [][3]matrix {
	r := rand.New(rand.NewSource(seed))
	var l [][3]matrix
	for n := 1; n <= maxSize; n++ {
		few := append(edges(r, n), thrown(r, n, sparse), thrown(r, n, small), ofRank(r, n, r.Intn(n+1)))
		if n <= 4 {
			few = append(few, thrown(r, n, long), thrown(r, n, long))
		}
		for k := 0; k < len(few); k += 1 + n/8 {
			l = append(l, [3]matrix{few[k], few[r.Intn(len(few))], few[r.Intn(len(few))]})
		}
	}
	return l
}

func TestP702ProductsGoTogether(t *testing.T) {
	t.Parallel()
	r := rand.New(rand.NewSource(30))
	for _, x := range threes(30) {
		a, b, c := x[0], x[1], x[2]
		product := dense.Mul(a, b)
		expectMatrix(t, "(ab)c", dense.Mul(product, c), dense.Mul(a, dense.Mul(b, c)), slices.Concat(a, b, c)...)
		v := thrownVector(r, len(a), small)
		expectVector(t, "(ab)v", dense.Apply(product, v), dense.Apply(a, dense.Apply(b, v)), append(slices.Concat(a, b), v)...)
	}
}

func TestP702OnesAndNoughts(t *testing.T) {
	t.Parallel()
	for _, m := range matrices(31) {
		one, nought := ones(len(m)), noughts(len(m))
		expectMatrix(t, "m one", dense.Mul(m, one), m, m...)
		expectMatrix(t, "one m", dense.Mul(one, m), m, m...)
		expectMatrix(t, "m nought", dense.Mul(m, nought), nought, m...)
		expectMatrix(t, "nought m", dense.Mul(nought, m), nought, m...)
		expectVector(t, "one v", dense.Apply(one, m[0]), m[0])
	}
}

func sum(a, b matrix) matrix {
	return filled(len(a), func(i, j int) api.Rat { return rat.Add(a[i][j], b[i][j]) })
}

func TestP702Sums(t *testing.T) {
	t.Parallel()
	for _, x := range threes(32) {
		a, b, c := x[0], x[1], x[2]
		expectMatrix(t, "(a+b)c", dense.Mul(sum(a, b), c), sum(dense.Mul(a, c), dense.Mul(b, c)), slices.Concat(a, b, c)...)
		expectMatrix(t, "a(b+c)", dense.Mul(a, sum(b, c)), sum(dense.Mul(a, b), dense.Mul(a, c)), slices.Concat(a, b, c)...)
		times := fraction(-3, 7)
		u, v := b[0], c[0]
		expectVector(t, "a(u+tv)", dense.Apply(a, added(u, v, times)), added(dense.Apply(a, u), dense.Apply(a, v), times), append(a, u, v)...)
	}
}

func TestP702Turned(t *testing.T) {
	t.Parallel()
	for _, x := range threes(33) {
		a, b := x[0], x[1]
		turned := dense.Turn(a)
		expectMatrix(t, "turned twice", dense.Turn(turned), a, a...)
		expectMatrix(t, "a product turned", dense.Turn(dense.Mul(a, b)), dense.Mul(dense.Turn(b), turned), slices.Concat(a, b)...)
		expectDet(t, turned, dense.Det(a))
		expectVector(t, "Minors", dense.Minors(turned), dense.Minors(a), a...)
		expectRank(t, turned, dense.Rank(a))
	}
}

func TestP702Products(t *testing.T) {
	t.Parallel()
	for _, x := range threes(34) {
		a, b := x[0], x[1]
		product := dense.Mul(a, b)
		expectDet(t, product, rat.Mul(dense.Det(a), dense.Det(b)))
		rankA, rankB, n := dense.Rank(a), dense.Rank(b), len(a)
		rank := dense.Rank(product)
		if rank > min(rankA, rankB) || rank < rankA+rankB-n {
			t.Fatalf("rank %d of a product of %d and %d: of %s", rank, rankA, rankB, words(slices.Concat(a, b)...))
		}
	}
}

// What changes rows changes the determinant in a way that is known.
func TestP702ChangedRows(t *testing.T) {
	t.Parallel()
	r := rand.New(rand.NewSource(35))
	for _, m := range matrices(35) {
		n := len(m)
		det, rank := dense.Det(m), dense.Rank(m)
		i, times := r.Intn(n), fraction(int64(r.Intn(9)+1), int64(-1-r.Intn(9)))
		row := slices.Clone(m)
		row[i] = added(noughts(n)[0], m[i], times)
		expectDet(t, row, rat.Mul(det, times))
		expectRank(t, row, rank)
		if n == 1 {
			continue
		}
		k := (i + 1 + r.Intn(n-1)) % n
		exchanged := slices.Clone(m)
		exchanged[i], exchanged[k] = m[k], m[i]
		expectDet(t, exchanged, rat.Neg(det))
		expectDet(t, flipped(exchanged), rat.Neg(det))
		expectRank(t, exchanged, rank)
		more := slices.Clone(m)
		more[i] = added(m[i], m[k], times)
		expectDet(t, more, det)
		expectDet(t, flipped(more), det)
		expectRank(t, more, rank)
	}
}

// A row that is a sum has as determinant the sum of both.
func TestP702RowOfASum(t *testing.T) {
	t.Parallel()
	r := rand.New(rand.NewSource(36))
	for _, m := range matrices(36) {
		n := len(m)
		i, v, times := r.Intn(n), thrownVector(r, n, small), fraction(5, 2)
		other, both := slices.Clone(m), slices.Clone(m)
		other[i], both[i] = v, added(m[i], v, times)
		expectDet(t, both, rat.Add(dense.Det(m), rat.Mul(times, dense.Det(other))))
	}
}

func TestP702MinorsAreDeterminantsOfParts(t *testing.T) {
	t.Parallel()
	for _, m := range matrices(37) {
		minors := dense.Minors(m)
		for k := 1; k <= len(m); k++ {
			expectDet(t, part(m, k), minors[k-1])
		}
		k := (len(m) + 1) / 2
		expectVector(t, "Minors of a part", dense.Minors(part(m, k)), minors[:k], m...)
	}
}

func TestP702Singular(t *testing.T) {
	t.Parallel()
	for _, m := range matrices(38) {
		_, e := dense.Solve(m, m[0])
		nought := len(dense.Det(m).N) == 0
		if nought != (dense.Rank(m) < len(m)) || nought != (e == api.ErrOne) {
			t.Fatalf("Det %v, Rank %d, Solve %v: of %s", dense.Det(m), dense.Rank(m), e, words(m...))
		}
	}
}

// inverse has as columns what the matrix sends to each of ones' columns.
func inverse(t *testing.T, m matrix) matrix {
	t.Helper()
	var columns matrix
	for _, b := range ones(len(m)) {
		columns = append(columns, expectSolved(t, m, b))
	}
	return flipped(columns)
}

func TestP702Inverse(t *testing.T) {
	t.Parallel()
	for _, x := range threes(39) {
		m, n := x[0], len(x[0])
		if dense.Rank(m) < n || n > 10 {
			continue
		}
		undo := inverse(t, m)
		expectMatrix(t, "m undone", dense.Mul(m, undo), ones(n), m...)
		expectMatrix(t, "undone m", dense.Mul(undo, m), ones(n), m...)
		expectDet(t, undo, given(new(big.Rat).Inv(bigOf(dense.Det(m)))))
		v := x[1][0]
		expectVector(t, "Solve", expectSolved(t, m, v), dense.Apply(undo, v), append(m, v)...)
		expectVector(t, "Solve undone", expectSolved(t, undo, v), dense.Apply(m, v), append(m, v)...)
		expectMatrix(t, "turned and undone", inverse(t, dense.Turn(m)), dense.Turn(undo), m...)
	}
}

// T1: however the rows of a system are told, it has one answer.
func TestP702SystemsThatAreTheSame(t *testing.T) {
	t.Parallel()
	r := rand.New(rand.NewSource(40))
	for _, m := range matrices(40) {
		n := len(m)
		if dense.Rank(m) < n {
			continue
		}
		b := thrownVector(r, n, small)
		x := expectSolved(t, m, b)
		var both matrix
		for i, row := range m {
			both = append(both, append(slices.Clone(row), b[i]))
		}
		other, sides := make(matrix, n), make(vector, n)
		for i, row := range mixed(r, both) {
			other[i], sides[i] = row[:n], row[n]
		}
		expectVector(t, "Solve", expectSolved(t, other, sides), x, append(m, b)...)
	}
}
