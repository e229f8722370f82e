package ival_test

import (
	"math/big"
	"math/rand"
	"testing"

	"anticline/api"
	"anticline/ival"
)

// within: numbers that an enclosure has: its ends, and some between.
func within(r *rand.Rand, i api.Ival) []*big.Rat {
	lo, hi := number(i.Lo), number(i.Hi)
	width := new(big.Rat).Sub(hi, lo)
	l := []*big.Rat{lo, hi}
	for range 3 {
		part := big.NewRat(r.Int63n(1001), 1000)
		l = append(l, part.Add(lo, part.Mul(part, width)))
	}
	if hasNought(i) {
		l = append(l, new(big.Rat))
	}
	return l
}

func expectHeld(t *testing.T, what string, i, j, got api.Ival, v *big.Rat) {
	t.Helper()
	if !ival.Right(got) || !ival.Has(got, given(v)) {
		t.Fatalf("%s of %x and %x: %x has not %v", what, i, j, got, v)
	}
}

func TestP402WhatLiesInEnclosures(t *testing.T) {
	r := rand.New(rand.NewSource(45))
	for range 600 {
		i, j := thrown(r), thrown(r)
		sum, difference, product := ival.Add(i, j), ival.Sub(i, j), ival.Mul(i, j)
		for _, a := range within(r, i) {
			expectHeld(t, "Neg", i, i, ival.Neg(i), new(big.Rat).Neg(a))
			for _, b := range within(r, j) {
				expectHeld(t, "Add", i, j, sum, new(big.Rat).Add(a, b))
				expectHeld(t, "Sub", i, j, difference, new(big.Rat).Sub(a, b))
				expectHeld(t, "Mul", i, j, product, times(a, b))
				if !hasNought(j) {
					expectHeld(t, "Quo", i, j, quo(t, i, j), over(a, b))
				}
			}
		}
	}
}

// Enclosures of numbers that are no floats hold what is made of these.
func TestP402WhatIsMadeOfNumbers(t *testing.T) {
	r := rand.New(rand.NewSource(46))
	for range 1000 {
		a, b := big.NewRat(r.Int63n(2001)-1000, 1+r.Int63n(1000)), big.NewRat(1+r.Int63n(1000), 1+r.Int63n(1000))
		if r.Intn(2) == 0 {
			b.Neg(b)
		}
		i, j := ival.Of(given(a)), ival.Of(given(b))
		expectHeld(t, "Of", i, i, i, a)
		expectHeld(t, "Add", i, j, ival.Add(i, j), new(big.Rat).Add(a, b))
		expectHeld(t, "Sub", i, j, ival.Sub(i, j), new(big.Rat).Sub(a, b))
		expectHeld(t, "Mul", i, j, ival.Mul(i, j), times(a, b))
		expectHeld(t, "Quo", i, j, quo(t, i, j), over(a, b))
	}
}

func TestP402Dot(t *testing.T) {
	r := rand.New(rand.NewSource(47))
	for range 300 {
		sum := new(big.Rat)
		var l, m []api.Ival
		for range 1 + r.Intn(8) {
			a, b := big.NewRat(r.Int63n(2001)-1000, 1+r.Int63n(1000)), big.NewRat(r.Int63n(2001)-1000, 1+r.Int63n(1000))
			l, m = append(l, ival.Of(given(a))), append(m, ival.Of(given(b)))
			sum.Add(sum, times(a, b))
		}
		got, e := ival.Dot(l, m)
		expectError(t, "Dot", got, e, api.OK)
		if !ival.Has(got, given(sum)) {
			t.Fatalf("Dot of %x and %x: %x has not %v", l, m, got, sum)
		}
	}
}
