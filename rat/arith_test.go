package rat_test

import (
	"math/big"
	"math/rand"
	"slices"
	"testing"

	"anticline/api"
	"anticline/rat"
)

func TestP202Sums(t *testing.T) {
	for _, p := range pairs(202) {
		a, b := p[0], p[1]
		x, y := bigOf(a), bigOf(b)
		same(t, "Add", rat.Add(a, b), new(big.Rat).Add(x, y))
		same(t, "Add", rat.Add(b, a), new(big.Rat).Add(x, y))
		same(t, "Sub", rat.Sub(a, b), new(big.Rat).Sub(x, y))
		same(t, "Sub", rat.Sub(b, a), new(big.Rat).Sub(y, x))
	}
}

func TestP202Products(t *testing.T) {
	for _, p := range pairs(2021) {
		a, b := p[0], p[1]
		x, y := bigOf(a), bigOf(b)
		same(t, "Mul", rat.Mul(a, b), new(big.Rat).Mul(x, y))
		same(t, "Mul", rat.Mul(b, a), new(big.Rat).Mul(x, y))
		got, e := rat.Quo(a, b)
		if y.Sign() == 0 {
			refused(t, "Quo", got, e)
			continue
		}
		if e != api.OK {
			t.Fatalf("Quo(%v, %v): %v", a, b, e)
		}
		same(t, "Quo", got, new(big.Rat).Quo(x, y))
	}
}

func TestP202NegAbs(t *testing.T) {
	for _, p := range pairs(2022) {
		a, x := p[0], bigOf(p[0])
		same(t, "Neg", rat.Neg(a), new(big.Rat).Neg(x))
		same(t, "Abs", rat.Abs(a), new(big.Rat).Abs(x))
	}
}

func TestP202CmpSame(t *testing.T) {
	for _, p := range pairs(2023) {
		a, b := p[0], p[1]
		want := bigOf(a).Cmp(bigOf(b))
		if rat.Cmp(a, b) != want || rat.Cmp(b, a) != -want {
			t.Fatalf("Cmp(%v, %v): %d, %d", a, b, rat.Cmp(a, b), rat.Cmp(b, a))
		}
		if rat.Same(a, b) != (want == 0) || rat.Same(b, a) != (want == 0) {
			t.Fatalf("Same(%v, %v): %v", a, b, rat.Same(a, b))
		}
	}
}

// P202: nought, as a, as b and as what comes out.
func TestP202Nought(t *testing.T) {
	nought := api.Rat{D: []uint32{1}}
	is := func(what string, got, want api.Rat) {
		t.Helper()
		if !equal(got, want) {
			t.Errorf("%s: %v, not %v", what, got, want)
		}
	}
	is("Neg of 0", rat.Neg(nought), nought)
	is("Abs of 0", rat.Abs(nought), nought)
	for _, a := range edges() {
		is("a + 0", rat.Add(a, nought), a)
		is("0 + a", rat.Add(nought, a), a)
		is("a - 0", rat.Sub(a, nought), a)
		is("0 - a", rat.Sub(nought, a), rat.Neg(a))
		is("a - a", rat.Sub(a, a), nought)
		is("a + -a", rat.Add(a, rat.Neg(a)), nought)
		is("a 0", rat.Mul(a, nought), nought)
		is("0 a", rat.Mul(nought, a), nought)
		q, e := rat.Quo(a, nought)
		refused(t, "Quo", q, e)
		if len(a.N) == 0 {
			continue
		}
		if q, e := rat.Quo(nought, a); e != api.OK || !equal(q, nought) {
			t.Errorf("0 by %v: %v, %v", a, q, e)
		}
		want := 1
		if a.Neg {
			want = -1
		}
		if rat.Cmp(a, nought) != want || rat.Cmp(nought, a) != -want || rat.Same(a, nought) || rat.Same(nought, a) {
			t.Errorf("%v beside nought", a)
		}
	}
}

// others are a with one thing changed: its sign, or one bit of one limb.
func others(a api.Rat) []api.Rat {
	copied := func() api.Rat {
		return api.Rat{Neg: a.Neg, N: slices.Clone(a.N), D: slices.Clone(a.D)}
	}
	turned := copied()
	turned.Neg = !a.Neg
	l := []api.Rat{turned}
	for i := range a.N {
		b := copied()
		b.N[i] ^= 1 << 9
		l = append(l, b)
	}
	for i := range a.D {
		b := copied()
		b.D[i] ^= 1 << 9
		l = append(l, b)
	}
	return l
}

// P202: numbers that differ in the sign, or in one limb alone. (Some of them
// are not in lowest terms, and are left out.)
func TestP202OneThingApart(t *testing.T) {
	r := rand.New(rand.NewSource(2024))
	tried := 0
	for i := range 200 {
		a := long(r, 1+i%9)
		for _, b := range others(a) {
			if !equal(b, fromBig(bigOf(b))) {
				continue
			}
			tried++
			if rat.Same(a, b) || rat.Same(b, a) {
				t.Fatalf("%v and %v are the same", a, b)
			}
			want := bigOf(a).Cmp(bigOf(b))
			if rat.Cmp(a, b) != want || rat.Cmp(b, a) != -want {
				t.Fatalf("%v and %v: not %d", a, b, want)
			}
		}
	}
	if tried < 500 {
		t.Errorf("only %d", tried)
	}
}

// P202: lists of other lengths that begin alike, and terms that are turned
// over.
func TestP202SameTellsLengthsApart(t *testing.T) {
	l := []api.Rat{
		{N: []uint32{5}, D: []uint32{1}},
		{N: []uint32{5, 1}, D: []uint32{1}},
		{N: []uint32{5}, D: []uint32{1, 1}},
		{N: []uint32{1}, D: []uint32{5}},
		{N: []uint32{1}, D: []uint32{1}},
		{D: []uint32{1}},
		{N: []uint32{5, 1}, D: []uint32{1, 1}},
	}
	for i, a := range l {
		for j, b := range l {
			if rat.Same(a, b) != (i == j) || (rat.Cmp(a, b) == 0) != (i == j) {
				t.Errorf("%v, %v", a, b)
			}
		}
	}
}

// P202: as many limbs as may be handed in.
func TestP202Long(t *testing.T) {
	r := rand.New(rand.NewSource(2025))
	a, b := long(r, 4000), long(r, 4000)
	x, y := bigOf(a), bigOf(b)
	same(t, "Add", rat.Add(a, b), new(big.Rat).Add(x, y))
	same(t, "Sub", rat.Sub(a, b), new(big.Rat).Sub(x, y))
	same(t, "Mul", rat.Mul(a, b), new(big.Rat).Mul(x, y))
	q, e := rat.Quo(a, b)
	if e != api.OK {
		t.Fatal(e)
	}
	same(t, "Quo", q, new(big.Rat).Quo(x, y))
	if rat.Cmp(a, b) != x.Cmp(y) || rat.Cmp(a, a) != 0 || !rat.Same(a, a) || rat.Same(a, b) {
		t.Error("Cmp, Same")
	}
}
