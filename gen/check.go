package gen

import (
	"slices"

	"anticline/api"
	"anticline/rat"
)

func sizeAllowed(g api.Gen) bool {
	return 1 <= g.N && g.N <= api.MaxSize && rankAllowed(g)
}

func rankAllowed(g api.Gen) bool {
	switch g.Kind {
	case api.ToepGen, api.CauGen:
		return 1 <= g.R && g.R <= api.MaxRank
	}
	return g.R == 0
}

// lengths: how many numbers stand in each row of a Gen.
type lengths struct{ a, b, g, h int }

func lengthsOf(g api.Gen) lengths {
	return lengths{a: len(g.A), b: len(g.B), g: len(g.G), h: len(g.H)}
}

// lengthsFor: those that the kind asks for, of a size that is allowed.
func lengthsFor(g api.Gen) lengths {
	n, nr := g.N, g.N*g.R
	switch g.Kind {
	case api.Toep, api.Hank:
		return lengths{a: 2*n - 1}
	case api.Circ, api.Vand:
		return lengths{a: n}
	case api.Cauchy:
		return lengths{a: n, b: n}
	case api.ToepGen:
		return lengths{g: nr, h: nr}
	}
	return lengths{a: n, b: n, g: nr, h: nr}
}

func numbersAllowed(g api.Gen) bool {
	for _, row := range rowsOf(g) {
		if slices.ContainsFunc(row, refused) {
			return false
		}
	}
	return true
}

// refused counts the limbs ahead: whether a long number is right takes long
// to tell.
func refused(a api.Rat) bool {
	return len(a.N) > api.MaxLimbs || len(a.D) > api.MaxLimbs || !rat.Right(a)
}

// node is a number as a value, which can be a map's key. No right number has
// a nought on top, so filling up with noughts makes no two of them equal.
type node struct {
	neg  bool
	n, d [api.MaxLimbs]uint32
}

func nodeOf(a api.Rat) node {
	v := node{neg: a.Neg}
	copy(v.n[:], a.N)
	copy(v.d[:], a.D)
	return v
}

// meet tells whether a number of a is the same as one of b.
func meet(a, b []api.Rat) bool {
	nodes := map[node]struct{}{}
	for _, x := range a {
		nodes[nodeOf(x)] = struct{}{}
	}
	for _, x := range b {
		if _, is := nodes[nodeOf(x)]; is {
			return true
		}
	}
	return false
}
