package gen_test

import (
	"math/big"
	"math/rand"
	"slices"
	"testing"

	"anticline/api"
	"anticline/gen"
)

// entryOf is the table's last column, word by word, in math/big.
func entryOf(g api.Gen, i, j int) *big.Rat {
	switch g.Kind {
	case api.Toep:
		return bigOf(g.A[i-j+g.N-1])
	case api.Hank:
		return bigOf(g.A[i+j])
	case api.Circ:
		k := i - j
		for k < 0 {
			k += g.N
		}
		return bigOf(g.A[k])
	case api.Vand:
		v := big.NewRat(1, 1)
		for range j {
			v.Mul(v, bigOf(g.A[i]))
		}
		return v
	case api.Cauchy:
		return new(big.Rat).Inv(difference(g, i, j))
	case api.CauGen:
		sum := new(big.Rat)
		for k := range g.R {
			sum.Add(sum, times(g.G[i*g.R+k], g.H[j*g.R+k]))
		}
		return sum.Quo(sum, difference(g, i, j))
	}
	sum := new(big.Rat)
	for m := 0; m <= i && m <= j; m++ {
		for k := range g.R {
			sum.Add(sum, times(g.G[(i-m)*g.R+k], g.H[(j-m)*g.R+k]))
		}
	}
	return sum
}

func difference(g api.Gen, i, j int) *big.Rat {
	return new(big.Rat).Sub(bigOf(g.A[i]), bigOf(g.B[j]))
}

func times(a, b api.Rat) *big.Rat {
	return new(big.Rat).Mul(bigOf(a), bigOf(b))
}

func expectEntry(t *testing.T, g api.Gen, i, j int, want *big.Rat) {
	t.Helper()
	if got := gen.Entry(g, i, j); !equal(got, given(want)) {
		t.Fatalf("Entry of %+v at %d, %d: %v, not %v", g, i, j, got, want)
	}
}

func TestP502EntryByTheTable(t *testing.T) {
	for seed := range int64(4) {
		for _, g := range allowed(20 + seed) {
			for i := range g.N {
				for j := range g.N {
					expectEntry(t, g, i, j, entryOf(g, i, j))
				}
			}
		}
	}
}

// Expand: N rows of N entries, for N 1 and 8 and all between.
func TestP502ExpandByTheTable(t *testing.T) {
	for seed := range int64(4) {
		for _, g := range allowed(30 + seed) {
			want := make([][]api.Rat, g.N)
			for i := range want {
				for j := range g.N {
					want[i] = append(want[i], given(entryOf(g, i, j)))
				}
			}
			if got := gen.Expand(g); !equalMatrix(got, want) {
				t.Fatalf("Expand of %+v: %v, not %v", g, got, want)
			}
		}
	}
}

// All numbers as long as they may be.
func TestP502LongNumbers(t *testing.T) {
	r := rand.New(rand.NewSource(40))
	long := func(n int) []api.Rat {
		l := make([]api.Rat, n)
		for k := range l {
			v := new(big.Rat).SetFrac(new(big.Int).Rand(r, new(big.Int).Lsh(big.NewInt(1), 128)), new(big.Int).Or(new(big.Int).Rand(r, new(big.Int).Lsh(big.NewInt(1), 128)), big.NewInt(1)))
			l[k] = given(v)
		}
		return l
	}
	for _, g := range []api.Gen{
		{Kind: api.Toep, N: 8, A: long(15)}, {Kind: api.Hank, N: 8, A: long(15)}, {Kind: api.Circ, N: 8, A: long(8)},
		{Kind: api.Vand, N: 8, A: long(8)}, {Kind: api.Cauchy, N: 8, A: long(8), B: long(8)},
		{Kind: api.ToepGen, N: 8, R: 3, G: long(24), H: long(24)},
		{Kind: api.CauGen, N: 8, R: 3, A: long(8), B: long(8), G: long(24), H: long(24)},
	} {
		expectCheck(t, g, api.OK)
		m := gen.Expand(g)
		for i := range g.N {
			for j := range g.N {
				if want := given(entryOf(g, i, j)); !equal(m[i][j], want) {
					t.Fatalf("Expand of %+v at %d, %d: %v, not %v", g, i, j, m[i][j], want)
				}
			}
		}
	}
}

// expectMatrix holds Expand and Entry against a matrix that is written out.
func expectMatrix(t *testing.T, g api.Gen, want ...string) {
	t.Helper()
	expectCheck(t, g, api.OK)
	m := gen.Expand(g)
	if len(m) != len(want) {
		t.Fatalf("Expand of %+v: %d rows", g, len(m))
	}
	for i := range m {
		var entries []api.Rat
		for j := range g.N {
			entries = append(entries, gen.Entry(g, i, j))
		}
		if words(m[i]) != want[i] || words(entries) != want[i] {
			t.Errorf("%+v: row %d: %s by Expand, %s by Entry, not %s", g, i, words(m[i]), words(entries), want[i])
		}
	}
}

func TestP502Written(t *testing.T) {
	expectMatrix(t, api.Gen{Kind: api.Toep, N: 3, A: ints(1, 2, 3, 4, 5)}, "3 2 1 ", "4 3 2 ", "5 4 3 ")
	expectMatrix(t, api.Gen{Kind: api.Hank, N: 3, A: ints(1, 2, 3, 4, 5)}, "1 2 3 ", "2 3 4 ", "3 4 5 ")
	expectMatrix(t, api.Gen{Kind: api.Cauchy, N: 2, A: ints(3, -1), B: ints(1, 0)}, "1/2 1/3 ", "-1/2 -1 ")
	expectMatrix(t, api.Gen{Kind: api.CauGen, N: 2, R: 2, A: ints(3, -1), B: ints(1, 0), G: ints(1, 2, 3, 4), H: ints(5, 6, 0, 0)}, "17/2 0 ", "-39/2 0 ")
}

// Example 1, and the like of the other kinds.
func TestP502OneNumber(t *testing.T) {
	expectMatrix(t, api.Gen{Kind: api.Circ, N: 1, A: []api.Rat{fraction(-7, 3)}}, "-7/3 ")
	expectMatrix(t, api.Gen{Kind: api.Toep, N: 1, A: []api.Rat{fraction(-7, 3)}}, "-7/3 ")
	expectMatrix(t, api.Gen{Kind: api.Hank, N: 1, A: []api.Rat{fraction(0, 1)}}, "0 ")
	expectMatrix(t, api.Gen{Kind: api.Vand, N: 1, A: []api.Rat{fraction(-7, 3)}}, "1 ")
	expectMatrix(t, api.Gen{Kind: api.Cauchy, N: 1, A: ints(2), B: ints(5)}, "-1/3 ")
	expectMatrix(t, api.Gen{Kind: api.ToepGen, N: 1, R: 3, G: ints(1, 2, 3), H: ints(4, 5, 6)}, "32 ")
	expectMatrix(t, api.Gen{Kind: api.CauGen, N: 1, R: 3, A: ints(2), B: ints(-2), G: ints(1, 2, 3), H: ints(4, 5, 6)}, "8 ")
}

func TestP502PowerOfNought(t *testing.T) {
	expectMatrix(t, api.Gen{Kind: api.Vand, N: 4, A: append(ints(0, 1, -2), fraction(1, 2))}, "1 0 0 0 ", "1 1 1 1 ", "1 -2 4 -8 ", "1 1/2 1/4 1/8 ")
	for _, a := range append(longest(), ints(0, -1)...) {
		g := api.Gen{Kind: api.Vand, N: 2, A: []api.Rat{fraction(5, 1), a}}
		expectEntry(t, g, 1, 0, big.NewRat(1, 1))
		expectEntry(t, g, 1, 1, bigOf(a))
	}
}

func TestP502RoundAbout(t *testing.T) {
	expectMatrix(t, api.Gen{Kind: api.Circ, N: 2, A: ints(1, 2)}, "1 2 ", "2 1 ")
	expectMatrix(t, api.Gen{Kind: api.Circ, N: 4, A: ints(1, 2, 3, 4)}, "1 4 3 2 ", "2 1 4 3 ", "3 2 1 4 ", "4 3 2 1 ")
	g := api.Gen{Kind: api.Circ, N: 8, A: ints(0, 1, 2, 3, 4, 5, 6, 7)}
	expectEntry(t, g, 0, 7, big.NewRat(1, 1))
	expectEntry(t, g, 7, 0, big.NewRat(7, 1))
	expectEntry(t, g, 0, 1, big.NewRat(7, 1))
	expectEntry(t, g, 6, 7, big.NewRat(7, 1))
}

// The first row and column have one product alone, what lies within one more
// than what is before it on the diagonal.
func TestP502FirstRowFirstColumnWithin(t *testing.T) {
	expectMatrix(t, api.Gen{Kind: api.ToepGen, N: 3, R: 1, G: ints(1, 10, 100), H: ints(2, 3, 5)}, "2 3 5 ", "20 32 53 ", "200 320 532 ")
	expectMatrix(t, api.Gen{Kind: api.ToepGen, N: 2, R: 2, G: ints(1, 2, 3, 4), H: ints(5, 6, 7, 8)}, "17 23 ", "39 70 ")
	expectMatrix(t, api.Gen{Kind: api.ToepGen, N: 2, R: 3, G: ints(1, 0, 0, 0, 1, 0), H: ints(1, 2, 3, 4, 5, 6)}, "1 4 ", "2 6 ")
}

// Sums and quotients that end at nought have no sign.
func TestP502Nought(t *testing.T) {
	expectMatrix(t, api.Gen{Kind: api.ToepGen, N: 2, R: 2, G: ints(1, -1, -2, 2), H: ints(3, 3, 0, 0)}, "0 0 ", "0 0 ")
	expectMatrix(t, api.Gen{Kind: api.CauGen, N: 1, R: 2, A: ints(-5), B: ints(5), G: ints(-1, 1), H: ints(2, 2)}, "0 ")
	nought := api.Rat{N: []uint32{}, D: []uint32{1}}
	for _, g := range []api.Gen{
		{Kind: api.Toep, N: 1, A: []api.Rat{nought}}, {Kind: api.Hank, N: 1, A: []api.Rat{nought}}, {Kind: api.Circ, N: 1, A: []api.Rat{nought}},
		{Kind: api.ToepGen, N: 1, R: 1, G: []api.Rat{nought}, H: ints(-4)},
	} {
		expectEntry(t, g, 0, 0, new(big.Rat))
	}
}

// An answer stays within what was asked: of N rows each has N entries.
func TestP502ExpandHasNRowsOfN(t *testing.T) {
	for _, g := range allowed(41) {
		m := gen.Expand(g)
		if len(m) != g.N || slices.ContainsFunc(m, func(row []api.Rat) bool { return len(row) != g.N }) {
			t.Errorf("Expand of %+v: %v", g, m)
		}
	}
}
