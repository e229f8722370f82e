package gen_test

import (
	"math"
	"math/rand"
	"slices"
	"testing"

	"anticline/api"
	"anticline/gen"
)

func expectSame(t *testing.T, a, b api.Gen, want bool) {
	t.Helper()
	if gen.Same(a, b) != want || gen.Same(b, a) != want {
		t.Fatalf("Same of %+v and %+v: not %v", a, b, want)
	}
}

// anyGens: Gens that are allowed, and such as are not, but of right numbers.
func anyGens() []api.Gen {
	r := rand.New(rand.NewSource(50))
	l := append(allowed(50), api.Gen{}, api.Gen{Kind: -1}, api.Gen{N: math.MinInt}, api.Gen{R: math.MaxInt})
	for range 40 {
		l = append(l, api.Gen{Kind: r.Intn(12) - 2, N: r.Intn(12) - 2, R: r.Intn(6) - 1, A: thrownRow(r, r.Intn(3)), B: thrownRow(r, r.Intn(3)), G: thrownRow(r, r.Intn(3)), H: thrownRow(r, r.Intn(3))})
	}
	return append(l, api.Gen{Kind: api.Circ, N: 1, A: tooLong()}, api.Gen{Kind: 99, H: append(tooLong(), longest()...)})
}

func TestP502SameAsACopy(t *testing.T) {
	for _, g := range anyGens() {
		expectSame(t, g, g, true)
		expectSame(t, g, copied(g), true)
	}
}

func TestP502SameOfTwoThatAreOther(t *testing.T) {
	all := anyGens()
	for i, a := range all {
		for _, b := range all[:i] {
			expectSame(t, a, b, false)
		}
	}
}

func TestP502SameButForKindOrSize(t *testing.T) {
	for _, g := range anyGens() {
		for _, by := range []int{-1, 1, 7, 1 << 32, math.MinInt} {
			kind, n, r := copied(g), copied(g), copied(g)
			kind.Kind += by
			n.N += by
			r.R += by
			expectSame(t, g, kind, false)
			expectSame(t, g, n, false)
			expectSame(t, g, r, false)
		}
		turned := g
		turned.Kind, turned.N = g.N, g.Kind
		expectSame(t, g, turned, g.Kind == g.N)
	}
}

// others: numbers that differ from a in one thing.
func others(a api.Rat) []api.Rat {
	longer := api.Rat{Neg: a.Neg, N: append(slices.Clone(a.N), 1), D: a.D}
	deeper := api.Rat{Neg: a.Neg, N: a.N, D: append(slices.Clone(a.D), 1)}
	var l []api.Rat
	for _, b := range []api.Rat{longer, deeper, {Neg: !a.Neg, N: a.N, D: a.D}, {Neg: a.Neg, N: a.D, D: a.N}} {
		if len(b.N) > 0 && len(b.D) > 0 {
			b = given(bigOf(b)) // right ones alone
			if !equal(a, b) {
				l = append(l, b)
			}
		}
	}
	return l
}

func TestP502SameButForOneNumber(t *testing.T) {
	for _, g := range anyGens() {
		for place := range rowNames {
			for k, a := range *row(&g, place) {
				for _, b := range others(a) {
					expectSame(t, g, changed(g, place, k, b), false)
				}
			}
		}
	}
}

func TestP502SameButForLengths(t *testing.T) {
	for _, g := range anyGens() {
		for place := range rowNames {
			longer := copied(g)
			l := row(&longer, place)
			*l = append(*l, fraction(0, 1))
			expectSame(t, g, longer, false)
			if len(*row(&g, place)) > 0 {
				shorter := copied(g)
				l = row(&shorter, place)
				*l = (*l)[:len(*l)-1]
				expectSame(t, g, shorter, false)
			}
		}
	}
}

// The same numbers in another order, or in another row.
func TestP502SameButForPlaces(t *testing.T) {
	g := api.Gen{Kind: api.Circ, N: 2, A: ints(1, 2)}
	expectSame(t, g, api.Gen{Kind: api.Circ, N: 2, A: ints(2, 1)}, false)
	for place := range rowNames[1:] {
		other := api.Gen{Kind: api.Circ, N: 2}
		*row(&other, 1+place) = ints(1, 2)
		expectSame(t, g, other, false)
	}
	expectSame(t, api.Gen{A: ints(1), B: ints(2)}, api.Gen{A: ints(1, 2)}, false)
	expectSame(t, api.Gen{G: ints(1, 2), H: ints(3)}, api.Gen{G: ints(1), H: ints(2, 3)}, false)
}

func TestP502SameOfNoListAndAnEmptyOne(t *testing.T) {
	for _, g := range anyGens() {
		other := copied(g)
		for place := range rowNames {
			l := row(&other, place)
			if len(*l) == 0 {
				*l = make([]api.Rat, 0, 3)
			}
			for k, a := range *l {
				if len(a.N) == 0 {
					(*l)[k].N = make([]uint32, 0, 3)
				}
			}
		}
		expectSame(t, g, other, true)
	}
}
