package nat_test

import (
	"math"
	"math/big"
	"math/rand"
	"slices"
	"testing"

	"anticline/api"
	"anticline/nat"
)

// pairs hands out all pairs of edges, thrown pairs of growing length, and
// pairs of the greatest length.
func pairs(try func(a, b []uint32)) {
	for _, a := range edges() {
		for _, b := range edges() {
			try(a, b)
		}
	}
	r := rand.New(rand.NewSource(102))
	for i := range 6000 {
		most := 3 + i/400
		try(thrown(r, most), thrown(r, 1+r.Intn(most)))
	}
	for _, n := range []int{100, 999, 4000} {
		try(long(r, n), long(r, n))
		try(long(r, n), long(r, n/2))
		try(full(n), full(n-1))
		try(full(n), []uint32{1})
	}
}

func TestP102Add(t *testing.T) {
	pairs(func(a, b []uint32) {
		want := new(big.Int).Add(toBig(a), toBig(b))
		same(t, "Add", nat.Add(a, b), want)
		same(t, "Add turned", nat.Add(b, a), want)
	})
}

func TestP102Sub(t *testing.T) {
	pairs(func(a, b []uint32) {
		got, e := nat.Sub(a, b)
		want := new(big.Int).Sub(toBig(a), toBig(b))
		if want.Sign() < 0 {
			if e != api.ErrArg || len(got) != 0 {
				t.Fatalf("Sub(%v, %v): %v, %v", a, b, got, e)
			}
			return
		}
		if e != api.OK {
			t.Fatalf("Sub(%v, %v): %v", a, b, e)
		}
		same(t, "Sub", got, want)
	})
}

func TestP102SubAtItsEdge(t *testing.T) {
	a := []uint32{0, 0, 0, 1}
	if got, e := nat.Sub(a, []uint32{1}); e != api.OK || !slices.Equal(got, full(3)) {
		t.Errorf("a borrow through three limbs: %v, %v", got, e)
	}
	if got, e := nat.Sub(a, a); e != api.OK || len(got) != 0 {
		t.Errorf("a less a: %v, %v", got, e)
	}
	if got, e := nat.Sub(a, []uint32{1, 0, 0, 1}); e != api.ErrArg || len(got) != 0 {
		t.Errorf("one too few: %v, %v", got, e)
	}
	if got, e := nat.Sub(nil, []uint32{1}); e != api.ErrArg || len(got) != 0 {
		t.Errorf("nought less one: %v, %v", got, e)
	}
}

func TestP102Mul(t *testing.T) {
	pairs(func(a, b []uint32) {
		want := new(big.Int).Mul(toBig(a), toBig(b))
		same(t, "Mul", nat.Mul(a, b), want)
		same(t, "Mul turned", nat.Mul(b, a), want)
	})
}

func TestP102Div(t *testing.T) {
	pairs(func(a, b []uint32) {
		q, r, e := nat.Div(a, b)
		if len(b) == 0 {
			if e != api.ErrZero || len(q) != 0 || len(r) != 0 {
				t.Fatalf("Div(%v, nought): %v, %v, %v", a, q, r, e)
			}
			return
		}
		if e != api.OK {
			t.Fatalf("Div(%v, %v): %v", a, b, e)
		}
		wantQ, wantR := new(big.Int).QuoRem(toBig(a), toBig(b), new(big.Int))
		same(t, "Div, how often", q, wantQ)
		same(t, "Div, what is left", r, wantR)
	})
}

// P102: one below, at and above a product: guessed digits are mended here.
func TestP102DivAroundProducts(t *testing.T) {
	r := rand.New(rand.NewSource(5))
	for range 4000 {
		b, q := thrown(r, 6), thrown(r, 6)
		if len(b) == 0 {
			continue
		}
		product := new(big.Int).Mul(toBig(b), toBig(q))
		for _, by := range []int64{-1, 0, 1} {
			a := new(big.Int).Add(product, big.NewInt(by))
			if a.Sign() < 0 {
				continue
			}
			wantQ, wantR := new(big.Int).QuoRem(a, toBig(b), new(big.Int))
			gotQ, gotR, _ := nat.Div(fromBig(a), b)
			same(t, "Div, how often", gotQ, wantQ)
			same(t, "Div, what is left", gotR, wantR)
		}
	}
}

func TestP102Gcd(t *testing.T) {
	pairs(func(a, b []uint32) {
		want := new(big.Int).GCD(nil, nil, toBig(a), toBig(b))
		same(t, "Gcd", nat.Gcd(a, b), want)
		same(t, "Gcd turned", nat.Gcd(b, a), want)
	})
}

// P102: what goes into both is found again, however great it is.
func TestP102GcdOfMultiples(t *testing.T) {
	r := rand.New(rand.NewSource(7))
	for i := range 1500 {
		g, x, y := thrown(r, 1+i/50), thrown(r, 1+i/30), thrown(r, 1+i/30)
		a, b := new(big.Int).Mul(toBig(g), toBig(x)), new(big.Int).Mul(toBig(g), toBig(y))
		same(t, "Gcd of multiples", nat.Gcd(fromBig(a), fromBig(b)), new(big.Int).GCD(nil, nil, a, b))
	}
}

// P102: quotients that are all one make the most steps.
func TestP102GcdOfFibonacciNumbers(t *testing.T) {
	a, b := big.NewInt(1), big.NewInt(1)
	for range 5000 {
		a, b = b, a.Add(a, b)
	}
	same(t, "Gcd of neighbours", nat.Gcd(fromBig(a), fromBig(b)), big.NewInt(1))
	twice := new(big.Int).Lsh(a, 100)
	same(t, "Gcd of neighbours, shifted", nat.Gcd(fromBig(twice), fromBig(new(big.Int).Lsh(b, 100))), new(big.Int).Lsh(big.NewInt(1), 100))
}

func TestP102GcdOfNoughts(t *testing.T) {
	if got := nat.Gcd(nil, []uint32{}); len(got) != 0 {
		t.Errorf("of two noughts: %v", got)
	}
	for _, a := range edges() {
		same(t, "Gcd with nought", nat.Gcd(a, nil), toBig(a))
		same(t, "Gcd of nought", nat.Gcd(nil, a), toBig(a))
		same(t, "Gcd with itself", nat.Gcd(a, a), toBig(a))
	}
}

func TestP102Shifts(t *testing.T) {
	r := rand.New(rand.NewSource(8))
	numbers := append(edges(), long(r, 4000), full(40))
	for range 60 {
		numbers = append(numbers, thrown(r, 9))
	}
	for _, a := range numbers {
		for _, k := range []int{0, 1, 5, 31, 32, 33, 63, 64, 65, 96, 97, 128, 223, 224, 1000} {
			same(t, "Shl", nat.Shl(a, k), new(big.Int).Lsh(toBig(a), uint(k)))
			same(t, "Shr", nat.Shr(a, k), new(big.Int).Rsh(toBig(a), uint(k)))
		}
	}
}

func TestP102ShiftsAtTheirEnd(t *testing.T) {
	const most = 1048576
	for _, a := range append(edges(), long(rand.New(rand.NewSource(9)), 4000)) {
		for _, k := range []int{most - 1, most} {
			up := nat.Shl(a, k)
			same(t, "Shl to the end", up, new(big.Int).Lsh(toBig(a), uint(k)))
			same(t, "Shr back", nat.Shr(up, k), toBig(a))
			if got := nat.Shr(a, k); len(got) != 0 {
				t.Fatalf("Shr to the end: %v", got)
			}
		}
	}
}

// P102, P9: a shift out of bounds is not clamped; it leaves the number.
func TestP102ShiftsOutOfBounds(t *testing.T) {
	for _, a := range edges() {
		for _, k := range []int{-1, -32, -1048576, math.MinInt, math.MinInt + 1, 1048577, 1048608, math.MaxInt32, math.MaxInt} {
			same(t, "Shl", nat.Shl(a, k), toBig(a))
			same(t, "Shr", nat.Shr(a, k), toBig(a))
		}
	}
}
