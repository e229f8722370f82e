package dense_test

import (
	"math/rand"
	"testing"

	"anticline/api"
	"anticline/dense"
)

func TestP701ApplyBySums(t *testing.T) {
	t.Parallel()
	r := rand.New(rand.NewSource(1))
	for _, m := range matrices(1) {
		for _, by := range []thrower{small, sparse, long} {
			v := thrownVector(r, len(m), by)
			expectVector(t, "Apply", dense.Apply(m, v), bigApply(m, v), append(m, v)...)
		}
	}
}

// A vector of noughts with a one among them is sent to a column.
func TestP701ApplyToOnes(t *testing.T) {
	t.Parallel()
	for _, m := range matrices(2) {
		columns := flipped(m)
		for j, v := range ones(len(m)) {
			expectVector(t, "Apply", dense.Apply(m, v), columns[j], append(m, v)...)
		}
		nought := noughts(len(m))[0]
		expectVector(t, "Apply to nought", dense.Apply(m, nought), nought, m...)
	}
}

func TestP701MulBySums(t *testing.T) {
	t.Parallel()
	all := matrices(3)
	for k, a := range all {
		for _, b := range []matrix{a, all[max(k-1, 0)], all[min(k+2, len(all)-1)]} {
			if len(a) == len(b) {
				expectMatrix(t, "Mul", dense.Mul(a, b), bigMul(a, b), append(a, b...)...)
			}
		}
	}
}

func TestP701TurnByPlaces(t *testing.T) {
	t.Parallel()
	for _, m := range matrices(4) {
		expectMatrix(t, "Turn", dense.Turn(m), flipped(m), m...)
	}
}

// By hand, so that rows and columns can't be mixed up on both sides.
func TestP701ByHand(t *testing.T) {
	t.Parallel()
	half := fraction(1, 2)
	a := matrix{ints(1, 2, 3), ints(4, 5, 6), {half, fraction(0, 1), fraction(-1, 3)}}
	b := matrix{ints(0, 1, 0), ints(0, 0, 1), ints(2, 0, 0)}
	expectVector(t, "Apply", dense.Apply(a, ints(1, 0, -6)), vector{fraction(-17, 1), fraction(-32, 1), fraction(5, 2)})
	expectMatrix(t, "Mul", dense.Mul(a, b), matrix{ints(6, 1, 2), ints(12, 4, 5), {fraction(-2, 3), half, fraction(0, 1)}})
	expectMatrix(t, "Mul", dense.Mul(b, a), matrix{ints(4, 5, 6), {half, fraction(0, 1), fraction(-1, 3)}, ints(2, 4, 6)})
	expectMatrix(t, "Turn", dense.Turn(a), matrix{{fraction(1, 1), fraction(4, 1), half}, ints(2, 5, 0), {fraction(3, 1), fraction(6, 1), fraction(-1, 3)}})
	expectMatrix(t, "Turn", dense.Turn(b), matrix{ints(0, 0, 2), ints(1, 0, 0), ints(0, 1, 0)})
}

// sized are numbers of so many limbs, above and below.
func sized(many int) thrower {
	return func(r *rand.Rand) api.Rat {
		l := make([]uint32, 2*many)
		for k := range l {
			l[k] = r.Uint32() | 1
		}
		return over(toInt(l[:many]), toInt(l[many:]))
	}
}

func TestP701ApplyMulTurnOfLongNumbers(t *testing.T) {
	t.Parallel()
	r := rand.New(rand.NewSource(5))
	for _, c := range []struct{ n, limbs int }{{1, 4000}, {2, 400}, {5, 60}, {16, 5}} {
		a, b, v := thrown(r, c.n, sized(c.limbs)), thrown(r, c.n, sized(c.limbs)), thrownVector(r, c.n, sized(c.limbs))
		expectVector(t, "Apply", dense.Apply(a, v), bigApply(a, v))
		expectMatrix(t, "Mul", dense.Mul(a, b), bigMul(a, b))
		expectMatrix(t, "Turn", dense.Turn(a), flipped(a))
	}
}
