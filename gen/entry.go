package gen

import (
	"slices"

	"anticline/api"
	"anticline/rat"
)

// entry is Entry of what is allowed.
func entry(g api.Gen, i, j int) api.Rat {
	switch g.Kind {
	case api.Toep:
		return clone(g.A[i-j+g.N-1])
	case api.Hank:
		return clone(g.A[i+j])
	case api.Circ:
		return clone(g.A[(i-j+g.N)%g.N])
	case api.Vand:
		return power(g.A[i], j)
	case api.Cauchy:
		return overNodes(one(), g, i, j)
	case api.ToepGen:
		return downTo(g, i, j)
	}
	return overNodes(product(g, i, j), g, i, j)
}

func clone(a api.Rat) api.Rat {
	return api.Rat{Neg: a.Neg, N: slices.Clone(a.N), D: slices.Clone(a.D)}
}

func one() api.Rat {
	return api.Rat{N: []uint32{1}, D: []uint32{1}}
}

func power(a api.Rat, j int) api.Rat {
	v := one()
	for range j {
		v = rat.Mul(v, a)
	}
	return v
}

// overNodes needs no look at Quo's error: Check refuses nodes that are the
// same.
func overNodes(a api.Rat, g api.Gen, i, j int) api.Rat {
	q, _ := rat.Quo(a, rat.Sub(g.A[i], g.B[j]))
	return q
}

// downTo adds up the products along the diagonal, from the edge down to i, j.
func downTo(g api.Gen, i, j int) api.Rat {
	sum := product(g, i, j)
	for m := 1; m <= min(i, j); m++ {
		sum = rat.Add(sum, product(g, i-m, j-m))
	}
	return sum
}

// product is that of row i of G and row j of H.
func product(g api.Gen, i, j int) api.Rat {
	rowG, rowH := g.G[i*g.R:], g.H[j*g.R:]
	sum := rat.Mul(rowG[0], rowH[0])
	for k := 1; k < g.R; k++ {
		sum = rat.Add(sum, rat.Mul(rowG[k], rowH[k]))
	}
	return sum
}
