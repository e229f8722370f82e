package ival_test

import (
	"math/big"
	"math/rand"
	"testing"

	"anticline/api"
	"anticline/ival"
)

func TestP401RightOfNumbers(t *testing.T) {
	all := append(append([]uint64{sign | inf}, ends()...), inf)
	for k, a := range all {
		for n, b := range all {
			noughts := a&^sign == 0 && b&^sign == 0
			if got, want := ival.Right(at(a, b)), k <= n || noughts; got != want {
				t.Errorf("Right from %x to %x: %v", a, b, got)
			}
		}
	}
}

func TestP401RightAtTheEdges(t *testing.T) {
	for _, x := range []struct {
		i    api.Ival
		want bool
	}{
		{at(0, 0), true}, {at(sign, 0), true}, {at(0, sign), true}, {at(sign, sign), true},
		{at(sign|inf, inf), true}, {at(inf, inf), true}, {at(sign|inf, sign|inf), true}, {at(inf, sign|inf), false},
		{at(great, inf), true}, {at(inf, great), false}, {at(sign|inf, sign|great), true}, {at(sign|great, sign|inf), false},
		{at(one, one), true}, {at(one, one+1), true}, {at(one+1, one), false},
		{at(sign|one, sign|(one+1)), false}, {at(sign|(one+1), sign|one), true},
		{at(1, 0), false}, {at(1, sign), false}, {at(0, sign|1), false}, {at(sign, sign|1), false},
		{at(sign|1, sign), true}, {at(sign|1, 1), true}, {at(sign, 1), true},
	} {
		if ival.Right(x.i) != x.want {
			t.Errorf("Right of %x: %v", x.i, !x.want)
		}
	}
}

func TestP401RightOfNoNumber(t *testing.T) {
	others := []uint64{0, sign, one, sign | one, inf, sign | inf, great, 1}
	for _, none := range nones() {
		for _, f := range append(others, none) {
			if ival.Right(at(none, f)) || ival.Right(at(f, none)) {
				t.Errorf("Right: %x beside %x", none, f)
			}
		}
	}
}

func TestP401OfFloats(t *testing.T) {
	for _, f := range ends() {
		want := f
		if f == sign {
			want = 0
		}
		if got := ival.Of(given(number(f))); got != point(want) {
			t.Errorf("Of %x: %x", f, got)
		}
	}
}

func TestP401OfOthers(t *testing.T) {
	huge := new(big.Rat).SetInt(new(big.Int).Lsh(big.NewInt(1), 1024))
	tiny := new(big.Rat).Inv(new(big.Rat).Mul(huge, huge))
	for _, x := range []struct {
		v    *big.Rat
		want api.Ival
	}{
		{big.NewRat(1, 3), at(0x3fd5555555555555, 0x3fd5555555555556)},
		{big.NewRat(2, 3), at(0x3fe5555555555555, 0x3fe5555555555556)},
		{big.NewRat(1, 10), at(0x3fb9999999999999, 0x3fb999999999999a)},
		{big.NewRat(1<<53+1, 1), at(0x4340000000000000, 0x4340000000000001)},
		{big.NewRat(1<<54+3, 1<<54), at(one, one+1)},
		{huge, at(great, inf)},
		{new(big.Rat).Add(number(great), big.NewRat(1, 2)), at(great, inf)},
		{tiny, at(0, 1)},
		{new(big.Rat).Mul(number(1), big.NewRat(3, 2)), at(1, 2)},
		{new(big.Rat).Mul(number(usual), big.NewRat(1<<60-1, 1<<60)), at(usual-1, usual)},
	} {
		if got := ival.Of(given(x.v)); got != x.want {
			t.Errorf("Of %v: %x, not %x", x.v, got, x.want)
		}
		if got := ival.Of(given(x.v.Neg(x.v))); got != negative(x.want) {
			t.Errorf("Of %v: %x, not %x", x.v, got, negative(x.want))
		}
	}
}

func TestP401OfThrown(t *testing.T) {
	r := rand.New(rand.NewSource(41))
	for range 5000 {
		v := new(big.Rat).Mul(number(1|thrownEnd(r)), big.NewRat(1+r.Int63n(1000), 1+r.Int63n(1000)))
		if got := ival.Of(given(v)); got != outward(v) {
			t.Fatalf("Of %v: %x, not %x", v, got, outward(v))
		}
	}
}

// beside: numbers at a finite float, and nearer to it on both sides than any
// other float is.
func beside(f uint64) []*big.Rat {
	v := number(f)
	step := new(big.Rat).Mul(number(1), big.NewRat(1, 3))
	return []*big.Rat{new(big.Rat).Sub(v, step), v, new(big.Rat).Add(v, step)}
}

func TestP401HasAtTheEnds(t *testing.T) {
	for _, i := range enclosures() {
		lo, hi := number(i.Lo), number(i.Hi)
		for _, v := range append(beside(i.Lo), beside(i.Hi)...) {
			want := v.Cmp(lo) >= 0 && v.Cmp(hi) <= 0
			if got := ival.Has(i, given(v)); got != want {
				t.Fatalf("Has(%x, %v): %v", i, v, got)
			}
		}
	}
}

func TestP401HasFloatsBeside(t *testing.T) {
	for _, f := range []uint64{one, sign | one, two, three, 1, sign | 1, usual, great, sign | great, 0x3fd5555555555555} {
		i := point(f)
		if !ival.Has(i, given(number(f))) {
			t.Errorf("%x has not its end", i)
		}
		for _, g := range []uint64{above(f), beneath(f)} {
			if g&^sign != inf && ival.Has(i, given(number(g))) {
				t.Errorf("%x has %x", i, g)
			}
		}
	}
}

func TestP401HasNought(t *testing.T) {
	for _, x := range []struct {
		i    api.Ival
		want bool
	}{
		{at(0, 0), true}, {at(sign, sign), true}, {at(0, sign), true}, {at(sign, 0), true},
		{at(sign, one), true}, {at(0, one), true}, {at(sign|one, 0), true}, {at(sign|one, sign), true},
		{at(sign|one, one), true}, {at(1, one), false}, {at(sign|one, sign|1), false}, {at(sign|1, 1), true},
	} {
		if ival.Has(x.i, fraction(0, 1)) != x.want {
			t.Errorf("Has(%x, 0): %v", x.i, !x.want)
		}
	}
}

func TestP401HasWithInfiniteEnds(t *testing.T) {
	beyond := new(big.Rat).Add(number(great), big.NewRat(1, 3))
	under := new(big.Rat).Neg(beyond)
	numbers := []*big.Rat{under, number(sign | great), number(sign | one), new(big.Rat), big.NewRat(1, 2), number(one), number(great), beyond}
	for _, x := range []struct {
		i    api.Ival
		want []bool
	}{
		{at(sign|inf, inf), []bool{true, true, true, true, true, true, true, true}},
		{at(one, inf), []bool{false, false, false, false, false, true, true, true}},
		{at(great, inf), []bool{false, false, false, false, false, false, true, true}},
		{at(sign|inf, sign|one), []bool{true, true, true, false, false, false, false, false}},
		{at(sign|inf, sign|great), []bool{true, true, false, false, false, false, false, false}},
		{at(sign|inf, 0), []bool{true, true, true, true, false, false, false, false}},
		{at(sign|inf, great), []bool{true, true, true, true, true, true, true, false}},
		{at(sign|great, inf), []bool{false, true, true, true, true, true, true, true}},
		{at(inf, inf), make([]bool, 8)},
		{at(sign|inf, sign|inf), make([]bool, 8)},
	} {
		for k, v := range numbers {
			if got := ival.Has(x.i, given(v)); got != x.want[k] {
				t.Errorf("Has(%x, number %d): %v", x.i, k, got)
			}
		}
	}
}

func TestP401Neg(t *testing.T) {
	for _, x := range []struct{ i, want api.Ival }{
		{at(0, 0), at(sign, sign)}, {at(sign, sign), at(0, 0)},
		{at(sign, 0), at(sign, 0)}, {at(0, sign), at(0, sign)},
		{at(0, one), at(sign|one, sign)}, {at(sign, one), at(sign|one, 0)}, {at(sign|one, sign), at(0, one)},
		{at(one, two), at(sign|two, sign|one)}, {at(sign|one, two), at(sign|two, one)},
		{at(1, great), at(sign|great, sign|1)}, {at(sign|three, sign|two), at(two, three)},
	} {
		if got := ival.Neg(x.i); got != x.want {
			t.Errorf("Neg of %x: %x, not %x", x.i, got, x.want)
		}
	}
}
