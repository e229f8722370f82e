package sfloat_test

import (
	"math"
	"math/big"
	"math/rand"
	"testing"

	"anticline/api"
	"anticline/sfloat"
)

func of(v *big.Rat, mode int) answer {
	return told(sfloat.Of(fromBig(v), mode))
}

// P301: a float is itself, by every mode and with no flags, the subnormal ones
// like others.
func TestP301Exact(t *testing.T) {
	for _, f := range finite() {
		for _, mode := range modes() {
			want := answer{f, 0}
			if f == sign {
				want.f = 0 // a rational nought has no sign
			}
			expect(t, "a float", mode, of(bigOf(f), mode), want)
		}
	}
}

// P301: between two floats: nearer to the lesser one, halfway, nearer to the
// greater one, by little and by much, on both sides of nought.
func TestP301BetweenTwoFloats(t *testing.T) {
	const no, yes = false, true
	for _, less := range sizes() {
		if less == great {
			continue // TestP301Over
		}
		flags := api.Inexact
		if less < usual {
			flags |= api.Under
		}
		step := new(big.Rat).Sub(bigOf(less+1), bigOf(less))
		for _, part := range []struct {
			share      *big.Rat
			even, away bool // whether the one further from nought is taken
		}{
			{pow2(-300), no, no},
			{big.NewRat(1, 4), no, no},
			{big.NewRat(1, 3), no, no},
			{new(big.Rat).Sub(pow2(-1), pow2(-300)), no, no},
			{pow2(-1), less&1 == 1, yes},
			{new(big.Rat).Add(pow2(-1), pow2(-300)), yes, yes},
			{big.NewRat(2, 3), yes, yes},
			{big.NewRat(3, 4), yes, yes},
			{new(big.Rat).Sub(pow2(0), pow2(-300)), yes, yes},
		} {
			v := new(big.Rat).Mul(step, part.share)
			v.Add(v, bigOf(less))
			pick := func(s uint64, further bool) answer {
				if further {
					return answer{s | (less + 1), flags}
				}
				return answer{s | less, flags}
			}
			for i, s := range []uint64{0, sign} {
				if i == 1 {
					v.Neg(v)
				}
				expect(t, "between", api.Cut, of(v, api.Cut), pick(s, no))
				expect(t, "between", api.Down, of(v, api.Down), pick(s, s != 0))
				expect(t, "between", api.Up, of(v, api.Up), pick(s, s == 0))
				expect(t, "between", api.Away, of(v, api.Away), pick(s, part.away))
				for _, mode := range modes() {
					if nearEven(mode) {
						expect(t, "between", mode, of(v, mode), pick(s, part.even))
					}
				}
			}
		}
	}
}

// P301: Under asks for the exact value, not for what it is rounded to.
func TestP301UnderIsOfTheExactValue(t *testing.T) {
	both := api.Under | api.Inexact
	below := new(big.Rat).Sub(pow2(-1022), pow2(-1076)) // a quarter of a step below the least one of usual size
	above := new(big.Rat).Add(pow2(-1022), pow2(-1076))
	half := new(big.Rat).Sub(pow2(-1022), pow2(-1075))
	for _, x := range []struct {
		v     *big.Rat
		mode  int
		f     uint64
		flags int
	}{
		{below, api.Even, usual, both},
		{below, api.Away, usual, both},
		{below, api.Up, usual, both},
		{below, api.Down, usual - 1, both},
		{below, api.Cut, usual - 1, both},
		{below, 77, usual, both},
		{half, api.Even, usual, both},
		{half, api.Away, usual, both},
		{half, api.Cut, usual - 1, both},
		{new(big.Rat).Sub(pow2(-1022), pow2(-3000)), api.Even, usual, both},
		{pow2(-1022), api.Down, usual, 0},
		{above, api.Even, usual, api.Inexact},
		{above, api.Down, usual, api.Inexact},
		{above, api.Up, usual + 1, api.Inexact},
		{new(big.Rat).Neg(below), api.Even, sign | usual, both},
		{new(big.Rat).Neg(below), api.Down, sign | usual, both},
		{new(big.Rat).Neg(below), api.Up, sign | (usual - 1), both},
		{new(big.Rat).Neg(above), api.Up, sign | usual, api.Inexact},
	} {
		expect(t, x.v.FloatString(5), x.mode, of(x.v, x.mode), answer{x.f, x.flags})
	}
}

// P301: values that round to a nought of their sign, or just don't.
func TestP301RoundsToNought(t *testing.T) {
	tiny := []*big.Rat{
		pow2(-1076), pow2(-1100), pow2(-1200), pow2(-1300), pow2(-5000), pow2(-120000),
		new(big.Rat).Sub(pow2(-1075), pow2(-1300)), big.NewRat(1, 1).Mul(pow2(-1075), big.NewRat(2, 3)),
	}
	flags := api.Under | api.Inexact
	for _, v := range tiny {
		minus := new(big.Rat).Neg(v)
		for _, mode := range modes() {
			up, down := answer{0, flags}, answer{sign, flags}
			switch mode {
			case api.Up:
				up.f = 1
			case api.Down:
				down.f = sign | 1
			}
			expect(t, "tiny", mode, of(v, mode), up)
			expect(t, "tiny below nought", mode, of(minus, mode), down)
		}
	}
	half, more := pow2(-1075), new(big.Rat).Add(pow2(-1075), pow2(-3000))
	expect(t, "half of the least", api.Even, of(half, api.Even), answer{0, flags})
	expect(t, "half of the least", api.Away, of(half, api.Away), answer{1, flags})
	expect(t, "more than half of it", api.Even, of(more, api.Even), answer{1, flags})
	expect(t, "half of the least below", api.Even, of(half.Neg(half), api.Even), answer{sign, flags})
	expect(t, "half of the least below", api.Away, of(half, api.Away), answer{sign | 1, flags})
}

// P301: around 2^1024 and far behind it.
func TestP301Over(t *testing.T) {
	over := api.Over | api.Inexact
	half := new(big.Rat).Sub(pow2(1024), pow2(970))
	little := pow2(-50)
	finite := answer{great, api.Inexact} // rounded to the greatest as to any other
	stays, leaves := answer{great, over}, answer{inf, over}
	for _, x := range []struct {
		what                      string
		v                         *big.Rat
		even, away, nearer, other answer
	}{
		{"just above the greatest", new(big.Rat).Add(bigOf(great), little), finite, finite, finite, leaves},
		{"below the half", new(big.Rat).Sub(half, little), finite, finite, finite, leaves},
		{"the half", half, leaves, leaves, finite, leaves},
		{"above the half", new(big.Rat).Add(half, little), leaves, leaves, finite, leaves},
		{"just below 2^1024", new(big.Rat).Sub(pow2(1024), little), leaves, leaves, finite, leaves},
		{"2^1024", pow2(1024), leaves, leaves, stays, leaves},
		{"just above 2^1024", new(big.Rat).Add(pow2(1024), little), leaves, leaves, stays, leaves},
		{"2^1025", pow2(1025), leaves, leaves, stays, leaves},
		{"2^1088", pow2(1088), leaves, leaves, stays, leaves},
		{"2^5119 and a third", new(big.Rat).Add(pow2(5119), big.NewRat(1, 3)), leaves, leaves, stays, leaves},
		{"2^120000", pow2(120000), leaves, leaves, stays, leaves},
	} {
		minus := new(big.Rat).Neg(x.v)
		below := func(a answer) answer { return answer{sign | a.f, a.flags} }
		for _, mode := range modes() {
			up, down := x.even, below(x.even)
			switch mode {
			case api.Cut:
				up, down = x.nearer, below(x.nearer)
			case api.Down:
				up, down = x.nearer, below(x.other)
			case api.Up:
				up, down = x.other, below(x.nearer)
			case api.Away:
				up, down = x.away, below(x.away)
			}
			expect(t, x.what, mode, of(x.v, mode), up)
			expect(t, x.what+", below nought", mode, of(minus, mode), down)
		}
	}
}

// P301: numbers of all sizes, against the promise's words.
func TestP301Thrown(t *testing.T) {
	r := rand.New(rand.NewSource(301))
	for range 4000 {
		n, d := 1+r.Intn(200), 1+r.Intn(200)
		v := new(big.Rat).SetFrac(bitsOf(r, n), bitsOf(r, d))
		if r.Intn(2) == 0 {
			v.Neg(v)
		}
		switch r.Intn(4) {
		case 0:
			v.Mul(v, pow2(-1022-n+d-r.Intn(60)))
		case 1:
			v.Mul(v, pow2(1024-n+d-r.Intn(3)))
		}
		for _, mode := range modes()[:6] {
			expect(t, v.String(), mode, of(v, mode), rounded(v, mode))
		}
	}
}

// bitsOf is a number of so many binary digits.
func bitsOf(r *rand.Rand, n int) *big.Int {
	v := new(big.Int).Rand(r, new(big.Int).Lsh(big.NewInt(1), uint(n-1)))
	return v.SetBit(v, n-1, 1)
}

// P301: by any number that is no mode as by Even, in every call.
func TestP301NoModeIsEven(t *testing.T) {
	r := rand.New(rand.NewSource(3011))
	for range 500 {
		a, b, c := thrown(r), thrown(r), thrown(r)
		for _, mode := range []int{5, 6, 8, 16, 256, 1 << 32, 1<<32 + 1, -1, -2, -256, math.MinInt, math.MinInt + 1, math.MaxInt} {
			for name, call := range calls() {
				expect(t, name, mode, call(a, b, c, mode), call(a, b, c, api.Even))
			}
		}
	}
}
