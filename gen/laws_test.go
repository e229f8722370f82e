package gen_test

import (
	"math/big"
	"testing"

	"anticline/api"
	"anticline/gen"
)

// P503: a Gen and one that is the same have one matrix, whichever call tells
// it, and in whatever order.
func TestP503OneMatrix(t *testing.T) {
	for seed := range int64(3) {
		for _, g := range allowed(60 + seed) {
			m := gen.Expand(g)
			for i := g.N - 1; i >= 0; i-- {
				for j := g.N - 1; j >= 0; j-- {
					if a := gen.Entry(g, i, j); !equal(a, m[i][j]) {
						t.Fatalf("%+v: at %d, %d %v by Entry, %v by Expand", g, i, j, a, m[i][j])
					}
				}
			}
			like := copied(g)
			if !gen.Same(g, like) || !equalMatrix(gen.Expand(like), m) || !equalMatrix(gen.Expand(g), m) {
				t.Fatalf("%+v: more than one matrix", g)
			}
		}
	}
}

// P503 (T4): displaced as its kind must be, the matrix tells nothing but the
// rows that it is told by.
func TestP503Displaced(t *testing.T) {
	for seed := range int64(3) {
		for _, g := range allowed(70 + seed) {
			m := gen.Expand(g)
			for i := range g.N {
				for j := range g.N {
					if left, right := displaced(g, m, i, j), toldAt(g, i, j); left.Cmp(right) != 0 {
						t.Fatalf("%+v: at %d, %d: %v, not %v", g, i, j, left, right)
					}
				}
			}
		}
	}
}

// at is an entry; what stands outside is nought.
func at(m [][]api.Rat, i, j int) *big.Rat {
	if i < 0 || j < 0 || i >= len(m) || j >= len(m) {
		return new(big.Rat)
	}
	return bigOf(m[i][j])
}

// displaced is what is left at i, j when the matrix is taken from itself,
// moved or multiplied as its kind asks.
func displaced(g api.Gen, m [][]api.Rat, i, j int) *big.Rat {
	v := at(m, i, j)
	switch g.Kind {
	case api.Toep, api.Circ, api.ToepGen:
		return v.Sub(v, at(m, i-1, j-1))
	case api.Hank:
		return v.Sub(v, at(m, i-1, j+1))
	case api.Vand:
		return v.Sub(v.Mul(v, bigOf(g.A[i])), at(m, i, j+1))
	}
	return v.Mul(v, difference(g, i, j))
}

// toldAt is what must be left.
func toldAt(g api.Gen, i, j int) *big.Rat {
	switch g.Kind {
	case api.Toep, api.Circ:
		return toldAtEdge(g, i, j)
	case api.Hank:
		if i == 0 || j == g.N-1 {
			return bigOf(g.A[i+j])
		}
		return new(big.Rat)
	case api.Vand:
		return toldAtLastColumn(g, i, j)
	case api.Cauchy:
		return big.NewRat(1, 1)
	}
	sum := new(big.Rat)
	for k := range g.R {
		sum.Add(sum, times(g.G[i*g.R+k], g.H[j*g.R+k]))
	}
	return sum
}

func toldAtEdge(g api.Gen, i, j int) *big.Rat {
	switch {
	case i > 0 && j > 0:
		return new(big.Rat)
	case g.Kind == api.Toep:
		return bigOf(g.A[g.N-1+i-j])
	case j == 0:
		return bigOf(g.A[i])
	}
	return bigOf(g.A[g.N-j])
}

func toldAtLastColumn(g api.Gen, i, j int) *big.Rat {
	v := new(big.Rat)
	if j == g.N-1 {
		v.SetInt64(1)
		for range g.N {
			v.Mul(v, bigOf(g.A[i]))
		}
	}
	return v
}
