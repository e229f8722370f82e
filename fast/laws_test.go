package fast_test

import (
	"math/big"
	"math/rand"
	"slices"
	"testing"

	"anticline/api"
	"anticline/code"
	"anticline/dense"
	"anticline/fast"
	"anticline/gen"
	"anticline/rat"
)

// most is the rank that a kind's matrix may have when it is displaced.
func most(g api.Gen) int {
	switch g.Kind {
	case api.Toep, api.Circ, api.Hank:
		return 2
	case api.Vand, api.Cauchy:
		return 1
	}
	return g.R
}

// bigRank looks for a pivot in all that is left, and takes its row and column
// out, as often as there is one.
func bigRank(m table) int {
	rows := make(table, len(m))
	for i := range m {
		rows[i] = slices.Clone(m[i])
	}
	for rank := 0; ; rank++ {
		i, j := bigPivot(rows)
		if j < 0 {
			return rank
		}
		pivot := rows[i]
		rows = slices.Delete(rows, i, i+1)
		for _, row := range rows {
			times := new(big.Rat).Quo(row[j], pivot[j])
			for k := range row {
				row[k] = new(big.Rat).Sub(row[k], new(big.Rat).Mul(times, pivot[k]))
			}
		}
	}
}

// bigPivot is the last entry that isn't nought.
func bigPivot(rows table) (i, j int) {
	for i, row := range slices.Backward(rows) {
		for j, v := range slices.Backward(row) {
			if v.Sign() != 0 {
				return i, j
			}
		}
	}
	return -1, -1
}

func TestP903RankOfWhatIsDisplaced(t *testing.T) {
	t.Parallel()
	for seed := range int64(3) {
		for _, g := range all(40 + seed) {
			m := fast.Disp(g)
			rank := bigRank(expanded(m))
			if len(m) != g.N || rank > most(g) || dense.Rank(m) != rank {
				t.Fatalf("rank %d, by dense %d, not at most %d: %+v", rank, dense.Rank(m), most(g), g)
			}
		}
	}
}

// The bounds are no greater than they must be: numbers with nothing in common
// reach them, where there are as many rows.
func TestP903RankIsReached(t *testing.T) {
	t.Parallel()
	for _, g := range gens(43, sized(api.MaxLimbs)) {
		want := min(most(g), g.N)
		if g.Kind == api.Hank && g.N == 1 {
			want = 0
		}
		if rank := dense.Rank(fast.Disp(g)); rank != want {
			t.Fatalf("rank %d, not %d: %+v", rank, want, g)
		}
	}
}

// strip is row i of G, or of H, cut into rows of R.
func strip(row vector, rank, i int) vector {
	return row[i*rank : (i+1)*rank]
}

// G times H turned, by sums of package rat.
func TestP903RowsTogether(t *testing.T) {
	t.Parallel()
	for seed := range int64(3) {
		for _, g := range all(44 + seed) {
			if g.R == 0 {
				continue
			}
			expectDisp(t, g, filled(g.N, func(i, j int) api.Rat {
				sum := fraction(0, 1)
				for k, a := range strip(g.G, g.R, i) {
					sum = rat.Add(sum, rat.Mul(a, strip(g.H, g.R, j)[k]))
				}
				return sum
			}))
		}
	}
}

// The same, as a product of two matrices that noughts make square.
func TestP903AsAProduct(t *testing.T) {
	t.Parallel()
	for _, g := range all(47) {
		if g.R == 0 || g.R > g.N {
			continue
		}
		square := func(row vector) matrix {
			m := make(matrix, g.N)
			for i := range m {
				m[i] = append(slices.Clone(strip(row, g.R, i)), noughts(g.N-g.R)...)
			}
			return m
		}
		expectDisp(t, g, dense.Mul(square(g.G), dense.Turn(square(g.H))))
	}
}

// Of the other kinds, what is left is what tells the matrix, at its edges.
func TestP903WhatIsLeft(t *testing.T) {
	t.Parallel()
	nought, one := fraction(0, 1), fraction(1, 1)
	for _, g := range all(48) {
		m := gen.Expand(g)
		left := map[int]func(i, j int) api.Rat{
			api.Toep: func(i, j int) api.Rat { return m[i][j] },
			api.Circ: func(i, j int) api.Rat { return m[i][j] },
			api.Hank: func(i, j int) api.Rat {
				if i == 0 && j == 0 {
					return nought
				} else if i == 0 {
					return rat.Neg(g.A[j-1])
				}
				return g.A[i-1]
			},
			api.Vand: func(i, j int) api.Rat {
				if j == g.N-1 {
					return given(power(g.A[i], g.N))
				}
				return nought
			},
			api.Cauchy: func(i, j int) api.Rat { return one },
		}[g.Kind]
		if left == nil {
			continue
		}
		expectDisp(t, g, filled(g.N, func(i, j int) api.Rat {
			if i > 0 && j > 0 && most(g) == 2 {
				return nought
			}
			return left(i, j)
		}))
	}
}

// Nothing gets lost: from what is left the matrix is got back.
func TestP903TheWayBack(t *testing.T) {
	t.Parallel()
	for _, g := range all(49) {
		left, m := expanded(fast.Disp(g)), tableOf(g)
		for i := range g.N {
			for j := range g.N {
				if v := got(g, left, m, i, j); v.Cmp(m[i][j]) != 0 {
					t.Fatalf("at %d, %d: %v, not %v: %+v", i, j, v, m[i][j], g)
				}
			}
		}
	}
}

// got is an entry, of what is left and of that entry of the matrix m that was
// taken into account with it.
func got(g api.Gen, left, m table, i, j int) *big.Rat {
	v := new(big.Rat)
	switch g.Kind {
	case api.Toep, api.Circ, api.ToepGen:
		return v.Add(left[i][j], at(m, i-1, j-1))
	case api.Hank:
		if i == g.N-1 {
			return m[i][j] // the last row isn't moved but at its front
		}
		return v.Add(left[i+1][j], at(m, i+1, j-1))
	case api.Vand:
		if bigOf(g.A[i]).Sign() == 0 {
			return m[i][j]
		}
		return v.Quo(v.Add(left[i][j], at(m, i, j+1)), bigOf(g.A[i]))
	}
	return v.Quo(left[i][j], difference(g, i, j))
}

// A Gen that was read from bytes is the same one, so all answers are alike.
func TestP903OfBytes(t *testing.T) {
	t.Parallel()
	r := rand.New(rand.NewSource(50))
	for _, g := range all(50) {
		again, e := code.Parse(code.Bytes(g))
		if e != api.OK {
			t.Fatalf("%v: %+v", e, g)
		}
		v := thrown(r, g.N, small)
		expectApply(t, again, v, apply(t, g, v))
		expectDisp(t, again, fast.Disp(g))
	}
}

// Sums and multiples of vectors are sent to those of what they are sent to.
func TestP901ApplyIsLinear(t *testing.T) {
	t.Parallel()
	r := rand.New(rand.NewSource(51))
	for _, g := range all(51) {
		u, v, c := thrown(r, g.N, small), thrown(r, g.N, long), small(r)
		both := make(vector, g.N)
		want := make(vector, g.N)
		sentU, sentV := apply(t, g, u), apply(t, g, v)
		for k := range both {
			both[k] = rat.Add(u[k], rat.Mul(c, v[k]))
			want[k] = rat.Add(sentU[k], rat.Mul(c, sentV[k]))
		}
		expectApply(t, g, both, want)
	}
}

// Apply undoes what dense.Solve of the same matrix does.
func TestP901ApplyUndoesSolve(t *testing.T) {
	t.Parallel()
	r := rand.New(rand.NewSource(52))
	solved := 0
	for _, g := range gens(52, small, digit, long) {
		b := thrown(r, g.N, small)
		if x, e := dense.Solve(gen.Expand(g), b); e == api.OK {
			expectApply(t, g, x, b)
			solved++
		}
	}
	if solved < 100 {
		t.Errorf("only %d systems were solved", solved)
	}
}
