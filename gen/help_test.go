package gen_test

import (
	"math/big"
	"math/rand"
	"slices"
	"testing"

	"anticline/api"
	"anticline/gen"
)

const top = 1<<32 - 1 // the greatest limb

// limbs and given make numbers by way of math/big, which knows nothing of the
// program.
func limbs(v *big.Int) []uint32 {
	var l []uint32
	rest := new(big.Int).Set(v)
	for rest.Sign() != 0 {
		l = append(l, uint32(rest.Uint64()))
		rest.Rsh(rest, 32)
	}
	return l
}

func given(v *big.Rat) api.Rat {
	return api.Rat{Neg: v.Sign() < 0, N: limbs(new(big.Int).Abs(v.Num())), D: limbs(v.Denom())}
}

func fraction(n, d int64) api.Rat {
	return given(big.NewRat(n, d))
}

func toInt(a []uint32) *big.Int {
	v := new(big.Int)
	for _, limb := range slices.Backward(a) {
		v.Lsh(v, 32).Or(v, new(big.Int).SetUint64(uint64(limb)))
	}
	return v
}

func bigOf(a api.Rat) *big.Rat {
	v := new(big.Rat).SetFrac(toInt(a.N), toInt(a.D))
	if a.Neg {
		v.Neg(v)
	}
	return v
}

// equal holds numbers limb by limb against each other.
func equal(a, b api.Rat) bool {
	return a.Neg == b.Neg && slices.Equal(a.N, b.N) && slices.Equal(a.D, b.D)
}

func equalMatrix(a, b [][]api.Rat) bool {
	return slices.EqualFunc(a, b, func(x, y []api.Rat) bool {
		return slices.EqualFunc(x, y, equal)
	})
}

// ints is a row of whole numbers.
func ints(values ...int64) []api.Rat {
	row := make([]api.Rat, len(values))
	for k, v := range values {
		row[k] = fraction(v, 1)
	}
	return row
}

func words(row []api.Rat) string {
	text := ""
	for _, a := range row {
		text += bigOf(a).RatString() + " "
	}
	return text
}

// thrown is a number that may be handed in: small, or of up to four limbs.
func thrown(r *rand.Rand) api.Rat {
	if r.Intn(3) > 0 {
		return fraction(int64(r.Intn(19)-9), int64(1+r.Intn(6)))
	}
	v := new(big.Rat).SetFrac(thrownInt(r), new(big.Int).Or(thrownInt(r), big.NewInt(1)))
	if r.Intn(2) == 0 {
		v.Neg(v)
	}
	return given(v)
}

func thrownInt(r *rand.Rand) *big.Int {
	l := make([]uint32, r.Intn(api.MaxLimbs+1))
	for i := range l {
		l[i] = []uint32{0, 1, 1 << 31, top, r.Uint32(), r.Uint32()}[r.Intn(6)]
	}
	return toInt(l)
}

func thrownRow(r *rand.Rand, n int) []api.Rat {
	row := make([]api.Rat, n)
	for k := range row {
		row[k] = thrown(r)
	}
	return row
}

// nodes are two rows of which none of the first is in the second; within a
// row a number may come more than once.
func nodes(r *rand.Rand, n int) (a, b []api.Rat) {
	a = thrownRow(r, n)
	for len(b) < n {
		x := thrown(r)
		if !slices.ContainsFunc(a, func(y api.Rat) bool { return equal(x, y) }) {
			b = append(b, x)
		}
	}
	return a, b
}

// ranks: the R that a kind may have.
func ranks(kind int) []int {
	if kind == api.ToepGen || kind == api.CauGen {
		return []int{1, 2, 3}
	}
	return []int{0}
}

func kinds() []int {
	return []int{api.Toep, api.Hank, api.Circ, api.Vand, api.Cauchy, api.ToepGen, api.CauGen}
}

// told is a Gen that Check must allow, so long as n and rank may be.
func told(r *rand.Rand, kind, n, rank int) api.Gen {
	g := api.Gen{Kind: kind, N: n, R: rank}
	switch kind {
	case api.Toep, api.Hank:
		g.A = thrownRow(r, 2*n-1)
	case api.Circ, api.Vand:
		g.A = thrownRow(r, n)
	case api.Cauchy, api.CauGen:
		g.A, g.B = nodes(r, n)
	}
	if kind == api.ToepGen || kind == api.CauGen {
		g.G, g.H = thrownRow(r, n*rank), thrownRow(r, n*rank)
	}
	return g
}

// allowed: Gens of each kind, of each size and rank.
func allowed(seed int64) []api.Gen {
	r := rand.New(rand.NewSource(seed))
	var l []api.Gen
	for _, kind := range kinds() {
		for n := 1; n <= 8; n++ {
			for _, rank := range ranks(kind) {
				l = append(l, told(r, kind, n, rank))
			}
		}
	}
	return l
}

// row hands out a row of a Gen by its place, so that it can be changed.
func row(g *api.Gen, place int) *[]api.Rat {
	return []*[]api.Rat{&g.A, &g.B, &g.G, &g.H}[place]
}

const rowNames = "ABGH"

// copied is g in memory of its own.
func copied(g api.Gen) api.Gen {
	for place := range rowNames {
		l := row(&g, place)
		*l = slices.Clone(*l)
		for k, a := range *l {
			(*l)[k] = api.Rat{Neg: a.Neg, N: slices.Clone(a.N), D: slices.Clone(a.D)}
		}
	}
	return g
}

// changed is a copy of g, but for one number.
func changed(g api.Gen, place, k int, to api.Rat) api.Gen {
	g = copied(g)
	(*row(&g, place))[k] = to
	return g
}

func expectCheck(t *testing.T, g api.Gen, want api.Errno) {
	t.Helper()
	if e := gen.Check(g); e != want {
		t.Fatalf("Check of %+v: %v, not %v", g, e, want)
	}
}

// wrong: what is no rational number, or one that is not right.
func wrong() []api.Rat {
	return []api.Rat{
		{}, {Neg: true}, {N: []uint32{1}}, {N: []uint32{1}, D: []uint32{0}}, {N: []uint32{1}, D: []uint32{0, 0}},
		{N: []uint32{1, 0}, D: []uint32{1}}, {N: []uint32{1}, D: []uint32{1, 0}}, {N: []uint32{1, 2, 3, 0}, D: []uint32{7}},
		{N: []uint32{7}, D: []uint32{1, 2, 3, 0}}, {N: []uint32{0}, D: []uint32{1}}, {N: []uint32{0, 0}, D: []uint32{1}},
		{Neg: true, D: []uint32{1}}, {D: []uint32{2}}, {D: []uint32{1, 1}}, {D: []uint32{0}}, {D: []uint32{1, 0}},
		{N: []uint32{2}, D: []uint32{2}}, {Neg: true, N: []uint32{6}, D: []uint32{4}},
		{N: []uint32{0, 3}, D: []uint32{0, 2}}, {N: []uint32{5, 5, 5, 5}, D: []uint32{10}},
		{N: []uint32{top, top, top, top}, D: []uint32{top, top, top, top}},
	}
}

// longest: numbers of just four limbs, above, below and both.
func longest() []api.Rat {
	return []api.Rat{
		{N: []uint32{0, 0, 0, 1}, D: []uint32{1}}, {N: []uint32{1}, D: []uint32{0, 0, 0, 1}},
		{Neg: true, N: []uint32{top, top, top, top}, D: []uint32{1}}, {N: []uint32{1}, D: []uint32{top, top, top, top}},
		{N: []uint32{top, top, top, top}, D: []uint32{top - 1, top, top, top}},
		{Neg: true, N: []uint32{top - 1, top, top, top}, D: []uint32{top, top, top, top}},
	}
}

// tooLong: numbers that are right, but of five limbs or more.
func tooLong() []api.Rat {
	many := append(make([]uint32, 3999), 1)
	return []api.Rat{
		{N: []uint32{0, 0, 0, 0, 1}, D: []uint32{1}}, {N: []uint32{1}, D: []uint32{0, 0, 0, 0, 1}},
		{Neg: true, N: []uint32{top, top, top, top, top}, D: []uint32{2}}, {Neg: true, N: []uint32{2}, D: []uint32{top, top, top, top, top}},
		{N: []uint32{top, top, top, top, top}, D: []uint32{top - 1, top, top, top, top}},
		{N: many, D: []uint32{1}}, {N: []uint32{1}, D: many},
	}
}
