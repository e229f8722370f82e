package rat_test

import (
	"math/big"
	"math/rand"
	"slices"
	"testing"

	"anticline/api"
)

const top = 1<<32 - 1 // the greatest limb

// toInt reads limbs by way of math/big, which knows nothing of the program.
func toInt(a []uint32) *big.Int {
	bytes := make([]byte, 0, 4*len(a))
	for i := len(a) - 1; i >= 0; i-- {
		bytes = append(bytes, byte(a[i]>>24), byte(a[i]>>16), byte(a[i]>>8), byte(a[i]))
	}
	return new(big.Int).SetBytes(bytes)
}

func fromInt(v *big.Int) []uint32 {
	bytes := v.Bytes()
	a := make([]uint32, (len(bytes)+3)/4)
	for i, b := range bytes {
		at := len(bytes) - 1 - i
		a[at/4] |= uint32(b) << (at % 4 * 8)
	}
	return a
}

// toBig is n over d, in math/big's lowest terms.
func toBig(neg bool, n, d []uint32) *big.Rat {
	v := new(big.Rat).SetFrac(toInt(n), toInt(d))
	if neg {
		v.Neg(v)
	}
	return v
}

func bigOf(a api.Rat) *big.Rat {
	return toBig(a.Neg, a.N, a.D)
}

func fromBig(v *big.Rat) api.Rat {
	return api.Rat{Neg: v.Sign() < 0, N: fromInt(v.Num()), D: fromInt(v.Denom())}
}

// equal holds numbers limb by limb against each other.
func equal(a, b api.Rat) bool {
	return a.Neg == b.Neg && slices.Equal(a.N, b.N) && slices.Equal(a.D, b.D)
}

func same(t *testing.T, what string, got api.Rat, want *big.Rat) {
	t.Helper()
	if !equal(got, fromBig(want)) {
		t.Fatalf("%s: got %v, want %v", what, got, want)
	}
}

func isZero(a api.Rat) bool {
	return !a.Neg && len(a.N) == 0 && len(a.D) == 0
}

// whole is a natural number of at most so many limbs, many of them at the
// edges.
func whole(r *rand.Rand, most int) []uint32 {
	a := make([]uint32, r.Intn(most+1))
	for i := range a {
		a[i] = []uint32{0, 0, 1, 2, 6, 1 << 31, top, top, top - 1, r.Uint32(), r.Uint32()}[r.Intn(11)]
	}
	for len(a) > 0 && a[len(a)-1] == 0 {
		a = a[:len(a)-1]
	}
	return a
}

// thrown is a number that is right, by math/big's word.
func thrown(r *rand.Rand, most int) api.Rat {
	d := whole(r, most)
	if len(d) == 0 {
		d = []uint32{uint32(1 + r.Intn(12))}
	}
	return fromBig(toBig(r.Intn(2) == 0, whole(r, most), d))
}

// long is a number whose N and D have just so many limbs, before what they
// share is taken out.
func long(r *rand.Rand, limbs int) api.Rat {
	n, d := make([]uint32, limbs), make([]uint32, limbs)
	for i := range n {
		n[i], d[i] = r.Uint32()|1, r.Uint32()|1
	}
	return fromBig(toBig(r.Intn(2) == 0, n, d))
}

func edgeWholes() [][]uint32 {
	return [][]uint32{
		nil, {1}, {2}, {3}, {4}, {6}, {12}, {35}, {1 << 31}, {top - 1}, {top},
		{0, 1}, {1, 1}, {0, 6}, {top, top}, {top - 1, top}, {0, 1 << 31},
		{0, 0, 1}, {1, 0, 1}, {top, top, top}, {0, 0, 0, 30}, {7, 0, 0, 0, 9},
	}
}

// edges: numbers that are right, of all edgeWholes and with both signs.
func edges() []api.Rat {
	var l []api.Rat
	for _, n := range edgeWholes() {
		for _, d := range edgeWholes()[1:] {
			v := toBig(false, n, d)
			l = append(l, fromBig(v))
			if v.Sign() != 0 {
				l = append(l, fromBig(v.Neg(v)))
			}
		}
	}
	slices.SortFunc(l, func(a, b api.Rat) int { return bigOf(a).Cmp(bigOf(b)) })
	return slices.CompactFunc(l, equal)
}

// pairs: each of the edges with some others, itself and its opposite among
// them, and pairs that are thrown, some of them with much in common.
func pairs(seed int64) [][2]api.Rat {
	r := rand.New(rand.NewSource(seed))
	var l [][2]api.Rat
	few := edges()
	for i, a := range few {
		opposite := fromBig(new(big.Rat).Neg(bigOf(a)))
		l = append(l, [2]api.Rat{a, a}, [2]api.Rat{a, opposite})
		for j := i % 17; j < len(few); j += 17 {
			l = append(l, [2]api.Rat{a, few[j]})
		}
	}
	for i := range 3000 {
		most := 1 + i/200
		a, b := thrown(r, most), thrown(r, 1+r.Intn(most))
		l = append(l, [2]api.Rat{a, b}, [2]api.Rat{a, related(r, a)})
	}
	return l
}

// related is a times a small number and then somewhat more: it has much in
// common with a.
func related(r *rand.Rand, a api.Rat) api.Rat {
	v := bigOf(a)
	v.Mul(v, big.NewRat(int64(r.Intn(25)-12), int64(1+r.Intn(12))))
	if r.Intn(2) == 0 {
		v.Add(v, new(big.Rat).SetFrac64(int64(r.Intn(9)-4), int64(1+r.Intn(30))))
	}
	return fromBig(v)
}
