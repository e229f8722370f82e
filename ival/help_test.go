package ival_test

import (
	"math"
	"math/big"
	"math/rand"
	"testing"

	"anticline/api"
	"anticline/ival"
	"anticline/sfloat"
)

const (
	sign  = 1 << 63
	inf   = 0x7ff << 52
	great = inf - 1 // the greatest finite one
	usual = 1 << 52 // the least one of usual size, 2^-1022
	half  = 0x3fe << 52
	one   = 0x3ff << 52
	two   = 0x400 << 52
	three = two | 1<<51
	four  = 0x401 << 52
)

func at(lo, hi uint64) api.Ival {
	return api.Ival{Lo: lo, Hi: hi}
}

// point holds one number alone.
func point(f uint64) api.Ival {
	return at(f, f)
}

// number reads a finite float by the machine and math/big, which know nothing
// of the program.
func number(f uint64) *big.Rat {
	return new(big.Rat).SetFloat64(math.Float64frombits(f))
}

func limbs(v *big.Int) []uint32 {
	var l []uint32
	rest := new(big.Int).Set(v)
	for rest.Sign() != 0 {
		l = append(l, uint32(rest.Uint64()))
		rest.Rsh(rest, 32)
	}
	return l
}

func given(v *big.Rat) api.Rat {
	return api.Rat{Neg: v.Sign() < 0, N: limbs(new(big.Int).Abs(v.Num())), D: limbs(v.Denom())}
}

func fraction(n, d int64) api.Rat {
	return given(big.NewRat(n, d))
}

// floor is the float next to a number that is not greater, ceil the one that
// is not less, each of the number's sign.
func floor(v *big.Rat) float64 {
	f, _ := v.Float64()
	switch {
	case math.IsInf(f, 1):
		return math.MaxFloat64
	case math.IsInf(f, -1):
		return f
	case new(big.Rat).SetFloat64(f).Cmp(v) > 0:
		return math.Nextafter(f, math.Inf(-1))
	}
	return f
}

func ceil(v *big.Rat) float64 {
	return -floor(new(big.Rat).Neg(v))
}

// outward encloses a number, which is not nought, by next floats.
func outward(v *big.Rat) api.Ival {
	return at(math.Float64bits(floor(v)), math.Float64bits(ceil(v)))
}

// ends: finite floats, from the least to the greatest; both noughts in
// neither order, as they are the same.
func ends() []uint64 {
	sizes := []uint64{
		1, 2, usual - 1, usual, usual + 1, 0x1ff0000000000000, 0x2000000000000001,
		0x3fd5555555555555, one, one + 1, three, 0x4340000000000001, 0x5fefffffffffffff, 0x6000000000000007,
		0x7fe0000000000000, great - 1, great,
	}
	var l []uint64
	for k := len(sizes) - 1; k >= 0; k-- {
		l = append(l, sign|sizes[k])
	}
	l = append(l, sign, 0)
	return append(l, sizes...)
}

// enclosures: from each of the ends to each that is not below it.
func enclosures() []api.Ival {
	var l []api.Ival
	all := ends()
	for k, lo := range all {
		for _, hi := range all[k:] {
			l = append(l, at(lo, hi))
		}
	}
	return append(l, at(0, sign))
}

// nones: patterns that are no number: each bit of the fraction alone, all but
// it, and some that are thrown, with both signs.
func nones() []uint64 {
	l := []uint64{sign - 1}
	for k := range 52 {
		l = append(l, inf|1<<k, (sign-1)&^(1<<k))
	}
	r := rand.New(rand.NewSource(4))
	for range 100 {
		l = append(l, inf|1+uint64(r.Int63n(1<<52-1)))
	}
	for _, f := range l {
		l = append(l, sign|f)
	}
	return l
}

// thrown is an enclosure with finite ends: of any size, of a middling one,
// near the ends of what there is, or of one that is in ends.
func thrown(r *rand.Rand) api.Ival {
	i := at(thrownEnd(r), thrownEnd(r))
	if r.Intn(8) == 0 {
		i.Hi = i.Lo
	}
	if math.Float64frombits(i.Lo) > math.Float64frombits(i.Hi) {
		i.Lo, i.Hi = i.Hi, i.Lo
	}
	return i
}

func thrownEnd(r *rand.Rand) uint64 {
	f := r.Uint64() &^ inf
	switch r.Intn(6) {
	case 0:
		return ends()[r.Intn(len(ends()))]
	case 1:
		return f | uint64(r.Intn(60))<<52
	case 2:
		return f | uint64(0x7fe-r.Intn(60))<<52
	case 3:
		return f | uint64(r.Intn(0x7ff))<<52
	}
	return f | uint64(0x3ff-30+r.Intn(60))<<52
}

func expect(t *testing.T, what string, i, j, got, want api.Ival) {
	t.Helper()
	if got != want {
		t.Fatalf("%s of %x and %x: %x, not %x", what, i, j, got, want)
	}
}

func expectError(t *testing.T, what string, got api.Ival, e, want api.Errno) {
	t.Helper()
	if e != want || e != api.OK && got != (api.Ival{}) {
		t.Fatalf("%s: %x, %v, not %v", what, got, e, want)
	}
}

// negative: the same numbers, seen from the other side.
func negative(i api.Ival) api.Ival {
	return at(sign^i.Hi, sign^i.Lo)
}

// above, beneath: next to a float.
func above(f uint64) uint64   { return sfloat.Next(f, true) }
func beneath(f uint64) uint64 { return sfloat.Next(f, false) }

// quo is a quotient that must be OK.
func quo(t *testing.T, i, j api.Ival) api.Ival {
	t.Helper()
	q, e := ival.Quo(i, j)
	if e != api.OK {
		t.Fatalf("Quo of %x and %x: %v", i, j, e)
	}
	return q
}
