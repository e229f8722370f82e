package fast_test

import (
	"math/rand"
	"slices"
	"testing"

	"anticline/api"
	"anticline/gen"
)

func TestP902DispByTable(t *testing.T) {
	t.Parallel()
	for seed := range int64(3) {
		for _, g := range all(20 + seed) {
			expectDisp(t, g, displaced(g, tableOf(g)))
		}
	}
}

// By the entries that package gen tells.
func TestP902DispByEntries(t *testing.T) {
	t.Parallel()
	for _, g := range all(24) {
		expectDisp(t, g, displaced(g, expanded(gen.Expand(g))))
	}
}

// By hand: what stands outside the matrix is nought, at each of its edges.
func TestP902DispByHand(t *testing.T) {
	t.Parallel()
	third := fraction(1, 3)
	for _, x := range []struct {
		g    api.Gen
		want matrix
	}{
		{api.Gen{Kind: api.Toep, N: 3, A: ints(1, 2, 3, 4, 5)}, matrix{ints(3, 2, 1), ints(4, 0, 0), ints(5, 0, 0)}},
		{api.Gen{Kind: api.Toep, N: 2, A: ints(-1, 0, 7)}, matrix{ints(0, -1), ints(7, 0)}},
		{api.Gen{Kind: api.Circ, N: 3, A: ints(1, -2, 3)}, matrix{ints(1, 3, -2), ints(-2, 0, 0), ints(3, 0, 0)}},
		{api.Gen{Kind: api.Circ, N: 2, A: ints(1, 2)}, matrix{ints(1, 2), ints(2, 0)}},
		{api.Gen{Kind: api.Hank, N: 3, A: ints(1, 2, 3, 4, 5)}, matrix{ints(0, -1, -2), ints(1, 0, 0), ints(2, 0, 0)}},
		{api.Gen{Kind: api.Hank, N: 4, A: ints(1, -2, 3, 4, 5, 6, 7)}, matrix{ints(0, -1, 2, -3), ints(1, 0, 0, 0), ints(-2, 0, 0, 0), ints(3, 0, 0, 0)}},
		{api.Gen{Kind: api.Vand, N: 3, A: vector{fraction(-2, 1), third, fraction(0, 1)}}, matrix{ints(0, 0, -8), {fraction(0, 1), fraction(0, 1), fraction(1, 27)}, ints(0, 0, 0)}},
		{api.Gen{Kind: api.Cauchy, N: 2, A: ints(3, 5), B: ints(1, 2)}, matrix{ints(1, 1), ints(1, 1)}},
		{api.Gen{Kind: api.ToepGen, N: 2, R: 1, G: ints(1, 2), H: ints(3, 4)}, matrix{ints(3, 4), ints(6, 8)}},
		{api.Gen{Kind: api.ToepGen, N: 2, R: 2, G: ints(1, 2, 3, 4), H: ints(5, 6, 7, 8)}, matrix{ints(17, 23), ints(39, 53)}},
		{api.Gen{Kind: api.CauGen, N: 2, R: 1, A: ints(3, 5), B: ints(1, 2), G: ints(1, 2), H: vector{third, fraction(-1, 1)}}, matrix{{third, fraction(-1, 1)}, {fraction(2, 3), fraction(-2, 1)}}},
		{api.Gen{Kind: api.CauGen, N: 2, R: 2, A: ints(3, 3), B: ints(1, 1), G: ints(1, 2, 3, 4), H: ints(5, 6, 7, 8)}, matrix{ints(17, 23), ints(39, 53)}},
	} {
		expectDisp(t, x.g, x.want)
	}
}

// Of one row nothing is left of a Hank, a node of a Vand, its one number else.
func TestP902DispOfOneRow(t *testing.T) {
	t.Parallel()
	r := rand.New(rand.NewSource(25))
	for range 50 {
		for _, by := range throwers() {
			for _, kind := range []int{api.Toep, api.Circ, api.Vand} {
				g := told(r, kind, 1, 0, by)
				expectDisp(t, g, matrix{g.A})
			}
			expectDisp(t, told(r, api.Hank, 1, 0, by), matrix{ints(0)})
			expectDisp(t, told(r, api.Cauchy, 1, 0, by), matrix{ints(1)})
			for _, kind := range []int{api.ToepGen, api.CauGen} {
				for _, rank := range ranks(kind) {
					g := told(r, kind, 1, rank, by)
					expectDisp(t, g, matrix{{given(rowsTogether(g, 0, 0))}})
				}
			}
		}
	}
}

// Of noughts there are noughts left.
func TestP902DispOfNoughts(t *testing.T) {
	t.Parallel()
	r := rand.New(rand.NewSource(26))
	for _, g := range gens(26, small) {
		if g.Kind == api.Vand || g.Kind == api.Cauchy {
			continue // these have ones, or what is like them
		}
		if g.R == 0 {
			g.A = noughts(len(g.A))
		} else if r.Intn(2) == 0 {
			g.G = noughts(len(g.G))
		} else {
			g.H = noughts(len(g.H))
		}
		expectDisp(t, g, slices.Repeat(matrix{noughts(g.N)}, g.N))
	}
}

// A Vand whose nodes are noughts has ones in front, and yet nothing is left.
func TestP902DispOfNodesThatAreNoughts(t *testing.T) {
	t.Parallel()
	for n := 1; n <= api.MaxSize; n++ {
		expectDisp(t, api.Gen{Kind: api.Vand, N: n, A: noughts(n)}, slices.Repeat(matrix{noughts(n)}, n))
	}
}

// A circulant matrix leaves its first row and its first column: round the
// corner it goes on, but what stands outside is nought all the same.
func TestP902DispOfCirculantOnes(t *testing.T) {
	t.Parallel()
	for _, g := range append(gens(27, throwers()...), edges(27)...) {
		if g.Kind == api.Circ {
			expectDisp(t, g, filled(g.N, func(i, j int) api.Rat {
				if i == 0 || j == 0 {
					return g.A[(i+g.N-j)%g.N]
				}
				return fraction(0, 1)
			}))
		}
	}
}
