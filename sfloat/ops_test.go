package sfloat_test

import (
	"math"
	"math/big"
	"math/rand"
	"testing"

	"anticline/api"
	"anticline/sfloat"
)

// calls: each operation of floats, under its name.
func calls() map[string]func(a, b, c uint64, mode int) answer {
	type call = func(a, b, c uint64, mode int) answer
	return map[string]call{
		"Add":  func(a, b, c uint64, mode int) answer { return told(sfloat.Add(a, b, mode)) },
		"Sub":  func(a, b, c uint64, mode int) answer { return told(sfloat.Sub(a, b, mode)) },
		"Mul":  func(a, b, c uint64, mode int) answer { return told(sfloat.Mul(a, b, mode)) },
		"Div":  func(a, b, c uint64, mode int) answer { return told(sfloat.Div(a, b, mode)) },
		"Sqrt": func(a, b, c uint64, mode int) answer { return told(sfloat.Sqrt(a, mode)) },
		"Fma":  func(a, b, c uint64, mode int) answer { return told(sfloat.Fma(a, b, c, mode)) },
	}
}

// unlike is the sign of a product or a quotient.
func unlike(a, b uint64) uint64 {
	return (a ^ b) & sign
}

// wantSum is of x and y, whose signs are those of s and u: floats, or a
// product's exact value.
func wantSum(x, y *big.Rat, s, u uint64, mode int) answer {
	v := new(big.Rat).Add(x, y)
	switch {
	case v.Sign() != 0:
		return rounded(v, mode)
	case x.Sign() == 0 && s&sign == u&sign:
		return answer{s & sign, 0}
	case mode == api.Down:
		return answer{sign, 0}
	}
	return answer{0, 0}
}

func wantMul(a, b uint64, mode int) answer {
	v := new(big.Rat).Mul(bigOf(a), bigOf(b))
	if v.Sign() == 0 {
		return answer{unlike(a, b), 0}
	}
	return rounded(v, mode)
}

func wantDiv(a, b uint64, mode int) answer {
	x, y := bigOf(a), bigOf(b)
	switch {
	case x.Sign() == 0 && y.Sign() == 0:
		return answer{none, api.Invalid}
	case y.Sign() == 0:
		return answer{unlike(a, b) | inf, api.ByZero}
	case x.Sign() == 0:
		return answer{unlike(a, b), 0}
	}
	return rounded(x.Quo(x, y), mode)
}

func wantSqrt(a uint64, mode int) answer {
	x := bigOf(a)
	switch x.Sign() {
	case 0:
		return answer{a, 0}
	case -1:
		return answer{none, api.Invalid}
	}
	return rounded(rootOf(x), mode)
}

// rootOf is the root of a float if it is rational; else a number that no float
// and no half between two parts from it.
func rootOf(x *big.Rat) *big.Rat {
	const places = 1200
	scaled := new(big.Rat).Mul(x, pow2(2*places)).Num()
	root := new(big.Int).Sqrt(scaled)
	v := new(big.Rat).SetInt(root)
	if new(big.Int).Mul(root, root).Cmp(scaled) != 0 {
		v.Add(v, big.NewRat(1, 2))
	}
	return v.Mul(v, pow2(-places))
}

func wantFma(a, b, c uint64, mode int) answer {
	product := new(big.Rat).Mul(bigOf(a), bigOf(b))
	return wantSum(product, bigOf(c), unlike(a, b), c, mode)
}

func tryTwo(t *testing.T, a, b uint64, mode int) {
	t.Helper()
	expect(t, "Add", mode, told(sfloat.Add(a, b, mode)), wantSum(bigOf(a), bigOf(b), a, b, mode))
	expect(t, "Sub", mode, told(sfloat.Sub(a, b, mode)), wantSum(bigOf(a), bigOf(b^sign), a, b^sign, mode))
	expect(t, "Mul", mode, told(sfloat.Mul(a, b, mode)), wantMul(a, b, mode))
	expect(t, "Div", mode, told(sfloat.Div(a, b, mode)), wantDiv(a, b, mode))
}

// P302: all pairs of floats at the edges, by every mode.
func TestP302EdgePairs(t *testing.T) {
	for _, a := range finite() {
		for _, b := range finite() {
			for _, mode := range modes()[:6] {
				tryTwo(t, a, b, mode)
			}
		}
	}
}

func TestP302ThrownPairs(t *testing.T) {
	r := rand.New(rand.NewSource(302))
	for range 6000 {
		a, b := thrown(r), thrown(r)
		for _, mode := range modes()[:6] {
			tryTwo(t, a, b, mode)
		}
	}
}

// P302: sums of floats whose digits lie just so far apart that the lesser one
// decides on a half, or what is left is short.
func TestP302SumsOfNeighbours(t *testing.T) {
	r := rand.New(rand.NewSource(3021))
	for apart := range 140 {
		for range 40 {
			a := uint64(0x3ff-r.Intn(3))<<52 | digits(r)
			b := uint64(0x3ff-apart)<<52 | digits(r)
			for _, mode := range modes()[:5] {
				tryTwo(t, a, b, mode)
				tryTwo(t, b|sign, a, mode)
			}
		}
	}
}

// digits is a fraction: any, or one of few digits, or nearly none or all.
func digits(r *rand.Rand) uint64 {
	f := r.Uint64() >> 12
	switch r.Intn(4) {
	case 0:
		return f
	case 1:
		return f &^ (1<<r.Intn(53) - 1)
	case 2:
		return uint64(r.Intn(3))
	}
	return 1<<52 - 1 - uint64(r.Intn(3))
}

func TestP302Sqrt(t *testing.T) {
	r := rand.New(rand.NewSource(3022))
	list := finite()
	for range 3000 {
		list = append(list, thrown(r)&^sign, thrown(r))
	}
	for range 500 {
		x := float64(1 + r.Intn(1<<26)) // squares, and their neighbours
		f := math.Float64bits(x * x)
		list = append(list, f, f+1, f-1)
	}
	for _, a := range list {
		for _, mode := range modes()[:6] {
			expect(t, "Sqrt", mode, told(sfloat.Sqrt(a, mode)), wantSqrt(a, mode))
		}
	}
}

func TestP302Fma(t *testing.T) {
	r := rand.New(rand.NewSource(3023))
	few := signed([]uint64{0, 1, 3, usual - 1, usual, usual + 1, 0x1ff0000000000001, one, one + 1, two - 1, 0x6000000000000007, great})
	for _, a := range few {
		for _, b := range few {
			for i, c := range few {
				mode := modes()[(i+r.Intn(5))%5]
				expect(t, "Fma", mode, told(sfloat.Fma(a, b, c, mode)), wantFma(a, b, c, mode))
			}
		}
	}
	for range 6000 {
		a, b, c := thrown(r), thrown(r), thrown(r)
		for _, mode := range modes()[:6] {
			expect(t, "Fma", mode, told(sfloat.Fma(a, b, c, mode)), wantFma(a, b, c, mode))
		}
	}
}

// P302: c beside the product, from far above it to far below, with unlike
// signs: all but little, or nothing, is taken away.
func TestP302FmaTakesAway(t *testing.T) {
	r := rand.New(rand.NewSource(3024))
	for apart := -170; apart < 170; apart++ {
		for range 15 {
			a, b := uint64(0x3ff)<<52|digits(r), uint64(0x3ff)<<52|digits(r)
			c := sign | uint64(0x3ff+apart)<<52 | digits(r)
			if near, _ := new(big.Rat).Mul(bigOf(a), bigOf(b)).Float64(); apart == 0 {
				c = sign | (math.Float64bits(near) + uint64(r.Intn(3)) - 1)
			}
			for _, mode := range modes()[:5] {
				expect(t, "Fma", mode, told(sfloat.Fma(a, b, c, mode)), wantFma(a, b, c, mode))
				expect(t, "Fma", mode, told(sfloat.Fma(a, b^sign, c^sign, mode)), wantFma(a, b^sign, c^sign, mode))
			}
		}
	}
}

// P302: Fma by hand: the product alone would be out of range, or lose digits.
func TestP302FmaRoundsOnce(t *testing.T) {
	under, over := api.Under|api.Inexact, api.Over|api.Inexact
	for _, x := range []struct {
		what    string
		a, b, c uint64
		mode    int
		want    answer
	}{
		{"twice the greatest less it", great, two, sign | great, api.Even, answer{great, 0}},
		{"minus twice the greatest and it", sign | great, two, great, api.Up, answer{sign | great, 0}},
		{"twice the greatest and it", great, two, great, api.Down, answer{great, over}},
		{"squares of the greatest", great, great, sign | great, api.Even, answer{inf, over}},
		{"squares of the greatest, cut", great, great, sign | great, api.Cut, answer{great, over}},
		{"below 2^1024 by little", 0x7fe0000000000000, two, sign | 1, api.Cut, answer{great, api.Inexact}},
		{"below 2^1024 by little, up", 0x7fe0000000000000, two, sign | 1, api.Up, answer{inf, over}},
		{"1 + 2^-51 + 2^-104 less 1 + 2^-51", one + 1, one + 1, sign | (one + 2), api.Even, answer{uint64(0x3ff-104) << 52, 0}},
		{"three times a rounded third less 1", 0x3fd5555555555555, 0x4008000000000000, sign | one, api.Even, answer{sign | uint64(0x3ff-54)<<52, 0}},
		{"1 and the least one's square", 1, 1, one, api.Even, answer{one, api.Inexact}},
		{"1 and the least one's square, up", 1, 1, one, api.Up, answer{one + 1, api.Inexact}},
		{"1 less the least one's square, down", sign | 1, 1, one, api.Down, answer{one - 1, api.Inexact}},
		{"1 less the least one's square", sign | 1, 1, one, api.Away, answer{one, api.Inexact}},
		{"the least one's square and 0", 1, 1, 0, api.Even, answer{0, under}},
		{"the least one's square and -0", 1, 1, sign, api.Even, answer{0, under}},
		{"the least one's square and -0, up", 1, 1, sign, api.Up, answer{1, under}},
		{"minus the least one's square and 0", sign | 1, 1, 0, api.Even, answer{sign, under}},
		{"minus the least one's square and 0, up", sign | 1, 1, 0, api.Up, answer{sign, under}},
		{"the least one less little", sign | 1, 1, 1, api.Cut, answer{0, under}},
		{"the least one of usual size less little", sign | 1, 1, usual, api.Even, answer{usual, under}},
		{"the least one of usual size and little", 1, 1, usual, api.Even, answer{usual, api.Inexact}},
		{"subnormal, though the product has more digits", usual + 1, uint64(0x3ff-52) << 52, 0, api.Even, answer{1, under}},
		{"a half of the last place", uint64(0x3ff-27) << 52, uint64(0x3ff-26) << 52, one, api.Even, answer{one, api.Inexact}},
		{"a half of the last place and more", uint64(0x3ff-27)<<52 + 1, uint64(0x3ff-26) << 52, one, api.Even, answer{one + 1, api.Inexact}},
		{"a half of the last place, away", uint64(0x3ff-27) << 52, uint64(0x3ff-26) << 52, one, api.Away, answer{one + 1, api.Inexact}},
	} {
		expect(t, x.what, x.mode, told(sfloat.Fma(x.a, x.b, x.c, x.mode)), x.want)
		expect(t, x.what+", turned", x.mode, told(sfloat.Fma(x.b, x.a, x.c, x.mode)), x.want)
	}
}

// P302: results that are nought, by the words.
func TestP302Noughts(t *testing.T) {
	const plus, minus = uint64(0), uint64(sign)
	for _, mode := range modes() {
		lost := plus
		if mode == api.Down {
			lost = minus
		}
		is := func(what string, got answer, f uint64) {
			t.Helper()
			expect(t, what, mode, got, answer{f, 0})
		}
		for _, f := range []uint64{1, usual, one, two + 1, great} {
			is("f - f", told(sfloat.Sub(f, f, mode)), lost)
			is("-f - -f", told(sfloat.Sub(sign|f, sign|f, mode)), lost)
			is("f + -f", told(sfloat.Add(f, sign|f, mode)), lost)
			is("-f + f", told(sfloat.Add(sign|f, f, mode)), lost)
			is("1 f - f", told(sfloat.Fma(one, f, sign|f, mode)), lost)
			is("-1 f + f", told(sfloat.Fma(sign|one, f, f, mode)), lost)
			for _, s := range []uint64{0, sign} {
				is("0 f", told(sfloat.Mul(plus, s|f, mode)), s)
				is("f -0", told(sfloat.Mul(s|f, minus, mode)), s^sign)
				is("0 / f", told(sfloat.Div(plus, s|f, mode)), s)
				is("-0 / f", told(sfloat.Div(minus, s|f, mode)), s^sign)
				is("f + 0", told(sfloat.Add(s|f, plus, mode)), s|f)
				is("-0 + f", told(sfloat.Add(minus, s|f, mode)), s|f)
				is("0 - f", told(sfloat.Sub(plus, s|f, mode)), s^sign|f)
				is("0 1 + f", told(sfloat.Fma(minus, one, s|f, mode)), s|f)
			}
		}
		is("0 + 0", told(sfloat.Add(plus, plus, mode)), plus)
		is("-0 + -0", told(sfloat.Add(minus, minus, mode)), minus)
		is("0 + -0", told(sfloat.Add(plus, minus, mode)), lost)
		is("-0 + 0", told(sfloat.Add(minus, plus, mode)), lost)
		is("0 - 0", told(sfloat.Sub(plus, plus, mode)), lost)
		is("-0 - -0", told(sfloat.Sub(minus, minus, mode)), lost)
		is("0 - -0", told(sfloat.Sub(plus, minus, mode)), plus)
		is("-0 - 0", told(sfloat.Sub(minus, plus, mode)), minus)
		is("0 0", told(sfloat.Mul(plus, plus, mode)), plus)
		is("-0 0", told(sfloat.Mul(minus, plus, mode)), minus)
		is("-0 -0", told(sfloat.Mul(minus, minus, mode)), plus)
		is("0 1 + 0", told(sfloat.Fma(plus, one, plus, mode)), plus)
		is("0 -1 + 0", told(sfloat.Fma(plus, sign|one, plus, mode)), lost)
		is("0 1 + -0", told(sfloat.Fma(plus, one, minus, mode)), lost)
		is("-0 1 + -0", told(sfloat.Fma(minus, one, minus, mode)), minus)
		is("-0 -0 + 0", told(sfloat.Fma(minus, minus, plus, mode)), plus)
		is("root of 0", told(sfloat.Sqrt(plus, mode)), plus)
		is("root of -0", told(sfloat.Sqrt(minus, mode)), minus)
	}
}
