package dense

import (
	"slices"

	"anticline/api"
	"anticline/rat"
)

func clone(a api.Rat) api.Rat {
	return api.Rat{Neg: a.Neg, N: slices.Clone(a.N), D: slices.Clone(a.D)}
}

func whole(limbs []uint32) api.Rat {
	return api.Rat{N: limbs, D: []uint32{1}}
}

func nought() api.Rat {
	return whole(nil)
}

func one() api.Rat {
	return whole([]uint32{1})
}

func isNought(a api.Rat) bool {
	return len(a.N) == 0
}

// over is a divided by what is not nought.
func over(a, by api.Rat) api.Rat {
	q, _ := rat.Quo(a, by)
	return q
}

// times is a matrix times a vector.
func times(m [][]api.Rat, v []api.Rat) []api.Rat {
	product := make([]api.Rat, len(m))
	for i := range len(m) {
		product[i] = dot(m[i], v)
	}
	return product
}

func dot(a, b []api.Rat) api.Rat {
	sum := nought()
	for k := range len(a) {
		sum = rat.Add(sum, rat.Mul(a[k], b[k]))
	}
	return sum
}
