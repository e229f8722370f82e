package dense_test

import (
	"math/big"
	"math/bits"
	"math/rand"
	"slices"
	"testing"

	"anticline/api"
)

const (
	top     = 1<<32 - 1 // the greatest limb
	maxSize = 16
)

type (
	vector = []api.Rat
	matrix = [][]api.Rat
)

// toInt, limbs and what is made of them go by way of math/big, which knows
// nothing of the program.
func toInt(a []uint32) *big.Int {
	v := new(big.Int)
	for _, limb := range slices.Backward(a) {
		v.Lsh(v, 32).Or(v, new(big.Int).SetUint64(uint64(limb)))
	}
	return v
}

func limbs(v *big.Int) []uint32 {
	var l []uint32
	for rest := new(big.Int).Set(v); rest.Sign() != 0; rest.Rsh(rest, 32) {
		l = append(l, uint32(rest.Uint64()))
	}
	return l
}

func bigOf(a api.Rat) *big.Rat {
	v := new(big.Rat).SetFrac(toInt(a.N), toInt(a.D))
	if a.Neg {
		v.Neg(v)
	}
	return v
}

func given(v *big.Rat) api.Rat {
	return api.Rat{Neg: v.Sign() < 0, N: limbs(new(big.Int).Abs(v.Num())), D: limbs(v.Denom())}
}

func over(n, d *big.Int) api.Rat {
	return given(new(big.Rat).SetFrac(n, d))
}

func fraction(n, d int64) api.Rat {
	return over(big.NewInt(n), big.NewInt(d))
}

func ints(values ...int64) vector {
	v := make(vector, len(values))
	for k, value := range values {
		v[k] = fraction(value, 1)
	}
	return v
}

// equal holds numbers limb by limb against each other.
func equal(a, b api.Rat) bool {
	return a.Neg == b.Neg && slices.Equal(a.N, b.N) && slices.Equal(a.D, b.D)
}

func equalVector(a, b vector) bool {
	return slices.EqualFunc(a, b, equal)
}

func equalMatrix(a, b matrix) bool {
	return slices.EqualFunc(a, b, equalVector)
}

// words are numbers as one reads them.
func words(m ...vector) string {
	text := ""
	for _, row := range m {
		for _, a := range row {
			text += bigOf(a).RatString() + " "
		}
		text += "; "
	}
	return text
}

func expect(t *testing.T, what string, got, want api.Rat, of ...vector) {
	t.Helper()
	if !equal(got, want) {
		t.Fatalf("%s: %v, not %v: of %s", what, got, want, words(of...))
	}
}

func expectVector(t *testing.T, what string, got, want vector, of ...vector) {
	t.Helper()
	if !equalVector(got, want) {
		t.Fatalf("%s: %v, not %v: of %s", what, got, want, words(of...))
	}
}

func expectMatrix(t *testing.T, what string, got, want matrix, of ...vector) {
	t.Helper()
	if !equalMatrix(got, want) {
		t.Fatalf("%s: %v, not %v: of %s", what, got, want, words(of...))
	}
}

// filled is a matrix by a rule.
func filled(n int, entry func(i, j int) api.Rat) matrix {
	m := make(matrix, n)
	for i := range m {
		m[i] = make(vector, n)
		for j := range m[i] {
			m[i][j] = entry(i, j)
		}
	}
	return m
}

// thrower throws numbers of a kind.
type thrower func(r *rand.Rand) api.Rat

func small(r *rand.Rand) api.Rat {
	return fraction(int64(r.Intn(19)-9), int64(1+r.Intn(6)))
}

func sparse(r *rand.Rand) api.Rat {
	if r.Intn(3) > 0 {
		return fraction(0, 1)
	}
	return small(r)
}

func digit(r *rand.Rand) api.Rat {
	return fraction(int64(r.Intn(3)-1), 1)
}

// long has up to four limbs, above and below, many of them at the edges.
func long(r *rand.Rand) api.Rat {
	number := func() *big.Int {
		l := make([]uint32, 1+r.Intn(4))
		for k := range l {
			l[k] = []uint32{0, 1, 1 << 31, top, r.Uint32(), r.Uint32()}[r.Intn(6)]
		}
		return toInt(l)
	}
	v := new(big.Rat).SetFrac(number(), new(big.Int).Or(number(), big.NewInt(1)))
	if r.Intn(2) == 0 {
		v.Neg(v)
	}
	return given(v)
}

func thrown(r *rand.Rand, n int, by thrower) matrix {
	return filled(n, func(i, j int) api.Rat { return by(r) })
}

func thrownVector(r *rand.Rand, n int, by thrower) vector {
	v := make(vector, n)
	for k := range v {
		v[k] = by(r)
	}
	return v
}

func noughts(n int) matrix {
	return filled(n, func(i, j int) api.Rat { return fraction(0, 1) })
}

func ones(n int) matrix {
	return filled(n, func(i, j int) api.Rat {
		if i == j {
			return fraction(1, 1)
		}
		return fraction(0, 1)
	})
}

// flipped has rows as columns.
func flipped(m matrix) matrix {
	return filled(len(m), func(i, j int) api.Rat { return m[j][i] })
}

// part is the first k rows and columns.
func part(m matrix, k int) matrix {
	return filled(k, func(i, j int) api.Rat { return m[i][j] })
}

// bigDot is the sum of products.
func bigDot(a, b vector) *big.Rat {
	sum := new(big.Rat)
	for k := range a {
		sum.Add(sum, new(big.Rat).Mul(bigOf(a[k]), bigOf(b[k])))
	}
	return sum
}

func bigApply(m matrix, v vector) vector {
	product := make(vector, len(m))
	for i, row := range m {
		product[i] = given(bigDot(row, v))
	}
	return product
}

func bigMul(a, b matrix) matrix {
	columns := flipped(b)
	return filled(len(a), func(i, j int) api.Rat { return given(bigDot(a[i], columns[j])) })
}

// ofRank is a matrix of just that rank: ones, and noughts behind them, between
// two matrices that have an inverse.
func ofRank(r *rand.Rand, n, rank int) matrix {
	middle := noughts(n)
	for k := range rank {
		middle[k][k] = fraction(1, 1)
	}
	return bigMul(bigMul(mixed(r, ones(n)), middle), mixed(r, ones(n)))
}

// mixed exchanges rows and adds multiples of rows to others.
func mixed(r *rand.Rand, m matrix) matrix {
	for range 2 * len(m) {
		i, j := r.Intn(len(m)), r.Intn(len(m))
		if i != j {
			m[i], m[j] = m[j], added(m[i], m[j], fraction(int64(r.Intn(5)-2), int64(1+r.Intn(2))))
		}
	}
	return m
}

// added is a, and so many times b.
func added(a, b vector, times api.Rat) vector {
	sum := make(vector, len(a))
	for k := range a {
		product := new(big.Rat).Mul(bigOf(b[k]), bigOf(times))
		sum[k] = given(product.Add(product, bigOf(a[k])))
	}
	return sum
}

// bigMinors tells the leading minors by Laplace: of the first k rows and any k
// columns by those of the rows but the last one. Rows are made whole ahead.
func bigMinors(m matrix) vector {
	n := len(m)
	scale := big.NewInt(1)
	dets := make([]*big.Int, 1<<n)
	dets[0] = big.NewInt(1)
	minors := make(vector, n)
	for k := range n {
		by, row := wholeRow(m[k])
		for set := range dets {
			if bits.OnesCount(uint(set)) == k+1 {
				dets[set] = expanded(row, dets, set)
			}
		}
		scale.Mul(scale, by)
		minors[k] = over(dets[1<<(k+1)-1], scale)
	}
	return minors
}

// expanded goes along the row of which the columns of the set are the last.
func expanded(row []*big.Int, dets []*big.Int, set int) *big.Int {
	sum, product := new(big.Int), new(big.Int)
	for j := range row {
		if set>>j&1 == 0 || row[j].Sign() == 0 {
			continue
		}
		product.Mul(row[j], dets[set&^(1<<j)])
		if bits.OnesCount(uint(set>>j))%2 == 0 {
			product.Neg(product)
		}
		sum.Add(sum, product)
	}
	return sum
}

// wholeRow multiplies a row by all that stands below.
func wholeRow(row vector) (by *big.Int, whole []*big.Int) {
	by = big.NewInt(1)
	for _, a := range row {
		d := toInt(a.D)
		by.Mul(by, d.Quo(d, new(big.Int).GCD(nil, nil, d, by)))
	}
	for _, a := range row {
		v := new(big.Rat).Mul(bigOf(a), new(big.Rat).SetInt(by))
		whole = append(whole, v.Num())
	}
	return by, whole
}

func bigDet(m matrix) api.Rat {
	return bigMinors(m)[len(m)-1]
}

// bigRank looks for a pivot in all that is left, and takes its row and column
// out, as often as there is one.
func bigRank(m matrix) int {
	rows := make([][]*big.Rat, len(m))
	for i, row := range m {
		for _, a := range row {
			rows[i] = append(rows[i], bigOf(a))
		}
	}
	for rank := 0; ; rank++ {
		i, j := bigPivot(rows)
		if j < 0 {
			return rank
		}
		pivot := rows[i]
		rows = slices.Delete(rows, i, i+1)
		for _, row := range rows {
			times := new(big.Rat).Quo(row[j], pivot[j])
			for k := range row {
				row[k] = new(big.Rat).Sub(row[k], new(big.Rat).Mul(times, pivot[k]))
			}
		}
	}
}

// bigPivot is the last entry that isn't nought.
func bigPivot(rows [][]*big.Rat) (i, j int) {
	for i, row := range slices.Backward(rows) {
		for j, v := range slices.Backward(row) {
			if v.Sign() != 0 {
				return i, j
			}
		}
	}
	return -1, -1
}

// edges: matrices of size n at the edges that there are.
func edges(r *rand.Rand, n int) []matrix {
	a := r.Intn(n)
	b := (a + 1) % n
	change := func(at func(m matrix)) matrix {
		m := thrown(r, n, small)
		at(m)
		return m
	}
	rows := []matrix{
		change(func(m matrix) { m[a] = m[b] }),
		change(func(m matrix) { m[a] = added(noughts(n)[0], m[b], fraction(-7, 3)) }),
		change(func(m matrix) { m[a] = noughts(n)[0] }),
	}
	l := []matrix{
		noughts(n), ones(n), ones(n), rows[0], rows[1], rows[2], flipped(rows[0]), flipped(rows[1]), flipped(rows[2]),
		filled(n, func(i, j int) api.Rat { return fraction(1, 1) }),
		filled(n, func(i, j int) api.Rat { return fraction(1, int64(i+j+1)) }),
	}
	slices.Reverse(l[2])
	for k := 1; k < n; k += 1 + n/6 {
		l = append(l, firstNoughts(r, n, k))
	}
	return l
}

// firstNoughts has a determinant, though its first k leading minors are
// nought.
func firstNoughts(r *rand.Rand, n, k int) matrix {
	for {
		m := thrown(r, n, small)
		for i := range 1 + r.Intn(n-k) {
			copy(m[i][:k], noughts(k)[0])
		}
		if bigRank(m) == n {
			return m
		}
	}
}

// matrices: thrown ones of each size, such as are at the edges, of some ranks,
// and of numbers of several limbs. Of sizes between, every third one must do.
func matrices(seed int64) []matrix {
	r := rand.New(rand.NewSource(seed))
	var l []matrix
	for n := 1; n <= maxSize; n++ {
		few := append(edges(r, n), thrown(r, n, small), thrown(r, n, sparse), thrown(r, n, digit), ofRank(r, n, r.Intn(n)))
		if n <= 8 {
			few = append(few, thrown(r, n, small), thrown(r, n, sparse), thrown(r, n, digit), thrown(r, n, long), thrown(r, n, long))
		}
		for k := range few {
			if n <= 8 || n == maxSize || (k+n+int(seed))%3 == 0 {
				l = append(l, few[k])
			}
		}
	}
	return append(l, thrown(r, 12, long))
}
