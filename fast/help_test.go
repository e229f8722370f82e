package fast_test

import (
	"math/big"
	"math/rand"
	"slices"
	"testing"

	"anticline/api"
	"anticline/fast"
)

const top = 1<<32 - 1 // the greatest limb

type (
	vector = []api.Rat
	matrix = [][]api.Rat
	table  = [][]*big.Rat
)

// toInt, limbs and what is made of them go by way of math/big, which knows
// nothing of the program.
func toInt(a []uint32) *big.Int {
	v := new(big.Int)
	for _, limb := range slices.Backward(a) {
		v.Lsh(v, 32).Or(v, new(big.Int).SetUint64(uint64(limb)))
	}
	return v
}

// limbs goes by bytes, as numbers of some ten thousand limbs come along.
func limbs(v *big.Int) []uint32 {
	b := v.Bytes()
	l := make([]uint32, (len(b)+3)/4)
	for k, digit := range b {
		place := len(b) - 1 - k
		l[place/4] |= uint32(digit) << (place % 4 * 8)
	}
	return l
}

func bigOf(a api.Rat) *big.Rat {
	v := new(big.Rat).SetFrac(toInt(a.N), toInt(a.D))
	if a.Neg {
		v.Neg(v)
	}
	return v
}

func given(v *big.Rat) api.Rat {
	return api.Rat{Neg: v.Sign() < 0, N: limbs(new(big.Int).Abs(v.Num())), D: limbs(v.Denom())}
}

func fraction(n, d int64) api.Rat {
	return given(big.NewRat(n, d))
}

func ints(values ...int64) vector {
	v := make(vector, len(values))
	for k, value := range values {
		v[k] = fraction(value, 1)
	}
	return v
}

// equal holds numbers limb by limb against each other.
func equal(a, b api.Rat) bool {
	return a.Neg == b.Neg && slices.Equal(a.N, b.N) && slices.Equal(a.D, b.D)
}

func equalVector(a, b vector) bool {
	return slices.EqualFunc(a, b, equal)
}

func equalMatrix(a, b matrix) bool {
	return slices.EqualFunc(a, b, equalVector)
}

func turned(m matrix) matrix {
	return filled(len(m), func(i, j int) api.Rat { return m[j][i] })
}

func filled(n int, entry func(i, j int) api.Rat) matrix {
	m := make(matrix, n)
	for i := range m {
		m[i] = make(vector, n)
		for j := range m[i] {
			m[i][j] = entry(i, j)
		}
	}
	return m
}

func noughts(n int) vector {
	return ints(make([]int64, n)...)
}

// unit has a one at place j.
func unit(n, j int) vector {
	v := noughts(n)
	v[j] = fraction(1, 1)
	return v
}

func apply(t *testing.T, g api.Gen, v vector) vector {
	t.Helper()
	x, e := fast.Apply(g, v)
	if e != api.OK {
		t.Fatalf("Apply: %v: %+v to %v", e, g, v)
	}
	return x
}

func expectApply(t *testing.T, g api.Gen, v, want vector) {
	t.Helper()
	if got := apply(t, g, v); !equalVector(got, want) {
		t.Fatalf("Apply: %v, not %v: %+v to %v", got, want, g, v)
	}
}

func expectDisp(t *testing.T, g api.Gen, want matrix) {
	t.Helper()
	if got := fast.Disp(g); !equalMatrix(got, want) {
		t.Fatalf("Disp: %v, not %v: of %+v", got, want, g)
	}
}

// thrower throws numbers of a sort.
type thrower func(r *rand.Rand) api.Rat

func throwers() []thrower {
	return []thrower{small, sparse, digit, long}
}

func small(r *rand.Rand) api.Rat {
	return fraction(int64(r.Intn(19)-9), int64(1+r.Intn(6)))
}

func sparse(r *rand.Rand) api.Rat {
	if r.Intn(3) > 0 {
		return fraction(0, 1)
	}
	return small(r)
}

func digit(r *rand.Rand) api.Rat {
	return fraction(int64(r.Intn(3)-1), 1)
}

// long has up to four limbs, above and below, many of them at the edges.
func long(r *rand.Rand) api.Rat {
	number := func() *big.Int {
		l := make([]uint32, 1+r.Intn(api.MaxLimbs))
		for k := range l {
			l[k] = []uint32{0, 1, 1 << 31, top, r.Uint32(), r.Uint32()}[r.Intn(6)]
		}
		return toInt(l)
	}
	return signed(r, number(), new(big.Int).Or(number(), big.NewInt(1)))
}

func signed(r *rand.Rand, n, d *big.Int) api.Rat {
	v := new(big.Rat).SetFrac(n, d)
	if r.Intn(2) == 0 {
		v.Neg(v)
	}
	return given(v)
}

// sized are numbers of just so many limbs, above and below.
func sized(many int) thrower {
	return func(r *rand.Rand) api.Rat {
		l := make([]uint32, 2*many)
		for k := range l {
			l[k] = r.Uint32() | 1
		}
		a := signed(r, toInt(l[:many]), toInt(l[many:]))
		if len(a.N) != many || len(a.D) != many { // they had much in common
			return sized(many)(r)
		}
		return a
	}
}

// whole are numbers of just so many limbs, above a one.
func whole(many int) thrower {
	return func(r *rand.Rand) api.Rat {
		a := sized(many)(r)
		return api.Rat{Neg: a.Neg, N: a.N, D: []uint32{1}}
	}
}

func thrown(r *rand.Rand, n int, by thrower) vector {
	v := make(vector, n)
	for k := range v {
		v[k] = by(r)
	}
	return v
}

// nodes are two rows of which none of the first is in the second; within a row
// a number may come more than once.
func nodes(r *rand.Rand, n int, by thrower) (a, b vector) {
	a = thrown(r, n, by)
	for len(b) < n {
		x := by(r)
		for slices.ContainsFunc(a, func(y api.Rat) bool { return equal(x, y) }) {
			x = long(r)
		}
		b = append(b, x)
	}
	return a, b
}

func kinds() []int {
	return []int{api.Toep, api.Hank, api.Circ, api.Vand, api.Cauchy, api.ToepGen, api.CauGen}
}

// ranks: the R that a kind may have.
func ranks(kind int) []int {
	if kind == api.ToepGen || kind == api.CauGen {
		return []int{1, 2, 3}
	}
	return []int{0}
}

func told(r *rand.Rand, kind, n, rank int, by thrower) api.Gen {
	g := api.Gen{Kind: kind, N: n, R: rank}
	switch kind {
	case api.Toep, api.Hank:
		g.A = thrown(r, 2*n-1, by)
	case api.Circ, api.Vand:
		g.A = thrown(r, n, by)
	case api.Cauchy, api.CauGen:
		g.A, g.B = nodes(r, n, by)
	}
	if kind == api.ToepGen || kind == api.CauGen {
		g.G, g.H = thrown(r, n*rank, by), thrown(r, n*rank, by)
	}
	return g
}

// gens: Gens of each kind, of each size and rank, by each thrower.
func gens(seed int64, by ...thrower) []api.Gen {
	r := rand.New(rand.NewSource(seed))
	var l []api.Gen
	for _, kind := range kinds() {
		for n := 1; n <= api.MaxSize; n++ {
			for _, rank := range ranks(kind) {
				for _, one := range by {
					l = append(l, told(r, kind, n, rank, one))
				}
			}
		}
	}
	return l
}

func times(a, b api.Rat) *big.Rat {
	return new(big.Rat).Mul(bigOf(a), bigOf(b))
}

// tableOf are the entries, by the words that tell them of each kind.
func tableOf(g api.Gen) table {
	m := make(table, g.N)
	for i := range m {
		for j := range g.N {
			m[i] = append(m[i], entry(g, i, j))
		}
	}
	return m
}

func entry(g api.Gen, i, j int) *big.Rat {
	switch g.Kind {
	case api.Toep:
		return bigOf(g.A[i-j+g.N-1])
	case api.Hank:
		return bigOf(g.A[i+j])
	case api.Circ:
		return bigOf(g.A[(i-j+g.N)%g.N])
	case api.Vand:
		return power(g.A[i], j)
	case api.Cauchy:
		return new(big.Rat).Inv(difference(g, i, j))
	case api.ToepGen:
		sum := new(big.Rat)
		for m := range min(i, j) + 1 {
			sum.Add(sum, rowsTogether(g, i-m, j-m))
		}
		return sum
	}
	sum := rowsTogether(g, i, j)
	return sum.Quo(sum, difference(g, i, j))
}

func power(a api.Rat, j int) *big.Rat {
	v := big.NewRat(1, 1)
	for range j {
		v.Mul(v, bigOf(a))
	}
	return v
}

func difference(g api.Gen, i, j int) *big.Rat {
	return new(big.Rat).Sub(bigOf(g.A[i]), bigOf(g.B[j]))
}

// rowsTogether is row i of G times row j of H.
func rowsTogether(g api.Gen, i, j int) *big.Rat {
	sum := new(big.Rat)
	for k := range g.R {
		sum.Add(sum, times(g.G[i*g.R+k], g.H[j*g.R+k]))
	}
	return sum
}

// summed is a table times a vector, one product after the other.
func summed(m table, v vector) vector {
	product, numbers := make(vector, len(m)), bigs(v)
	for i, row := range m {
		sum := new(big.Rat)
		for j, x := range row {
			sum.Add(sum, new(big.Rat).Mul(x, numbers[j]))
		}
		product[i] = given(sum)
	}
	return product
}

// at is an entry; what stands outside is nought.
func at(m table, i, j int) *big.Rat {
	if i < 0 || j < 0 || i >= len(m) || j >= len(m) {
		return new(big.Rat)
	}
	return m[i][j]
}

// displaced is what a table leaves where it is displaced as the kind asks.
func displaced(g api.Gen, m table) matrix {
	return filled(g.N, func(i, j int) api.Rat {
		v := new(big.Rat)
		switch g.Kind {
		case api.Toep, api.Circ, api.ToepGen:
			v.Sub(m[i][j], at(m, i-1, j-1))
		case api.Hank:
			v.Sub(at(m, i-1, j), at(m, i, j-1))
		case api.Vand:
			v.Mul(bigOf(g.A[i]), m[i][j])
			v.Sub(v, at(m, i, j+1))
		default:
			v.Mul(difference(g, i, j), m[i][j])
		}
		return given(v)
	})
}

// bigs and expanded are the same numbers, as those of math/big.
func bigs(v vector) []*big.Rat {
	numbers := make([]*big.Rat, len(v))
	for k, a := range v {
		numbers[k] = bigOf(a)
	}
	return numbers
}

func expanded(m matrix) table {
	rows := make(table, len(m))
	for i, row := range m {
		rows[i] = bigs(row)
	}
	return rows
}

// edges: Gens of each kind, size and rank at the edges that there are: of
// noughts, of ones and of ones below nought, of one number that is not nought,
// of the longest numbers.
func edges(seed int64) []api.Gen {
	r := rand.New(rand.NewSource(seed))
	constant := func(a api.Rat) thrower { return func(*rand.Rand) api.Rat { return a } }
	l := gens(seed, constant(fraction(0, 1)), constant(fraction(1, 1)), constant(fraction(-1, 1)), constant(fraction(-7, 3)), sized(api.MaxLimbs), whole(api.MaxLimbs))
	for _, g := range gens(seed, constant(fraction(0, 1))) {
		place := []*vector{&g.A, &g.G, &g.H}[r.Intn(3)]
		if len(g.B) == 0 && len(*place) > 0 {
			(*place)[r.Intn(len(*place))] = long(r)
			l = append(l, g)
		}
	}
	return l
}

// all: Gens of all sorts.
func all(seed int64) []api.Gen {
	return append(gens(seed, throwers()...), edges(seed)...)
}
