package sfloat_test

import (
	"math"
	"math/rand"
	"testing"

	"anticline/api"
	"anticline/sfloat"
)

// P302: what is no number, in any place and beside anything: that, no flags.
func TestP302NoNumber(t *testing.T) {
	beside := []uint64{0, sign, 1, one, sign | one, great, inf, sign | inf, none, sign | (inf + 1)}
	want := answer{none, 0}
	for _, x := range nones() {
		for _, b := range beside {
			for _, c := range beside {
				for _, mode := range []int{api.Even, api.Cut, api.Down, api.Up, api.Away, 5} {
					for name, call := range calls() {
						expect(t, name, mode, call(x, b, c, mode), want)
						if name != "Sqrt" {
							expect(t, name, mode, call(b, x, c, mode), want)
						}
					}
					expect(t, "Fma", mode, told(sfloat.Fma(b, c, x, mode)), want)
				}
			}
		}
	}
}

func TestP302Invalid(t *testing.T) {
	want := answer{none, api.Invalid}
	for _, mode := range modes() {
		for _, s := range []uint64{0, sign} {
			for _, u := range []uint64{0, sign} {
				expect(t, "infinity by infinity", mode, told(sfloat.Div(s|inf, u|inf, mode)), want)
				expect(t, "nought by nought", mode, told(sfloat.Div(s, u, mode)), want)
				expect(t, "nought times infinity", mode, told(sfloat.Mul(s, u|inf, mode)), want)
				expect(t, "infinity times nought", mode, told(sfloat.Mul(s|inf, u, mode)), want)
				for _, c := range append(finite(), inf, sign|inf) {
					expect(t, "nought times infinity and c", mode, told(sfloat.Fma(s, u|inf, c, mode)), want)
					expect(t, "infinity times nought and c", mode, told(sfloat.Fma(s|inf, u, c, mode)), want)
				}
			}
			expect(t, "infinities added", mode, told(sfloat.Add(s|inf, s^sign|inf, mode)), want)
			expect(t, "an infinity less itself", mode, told(sfloat.Sub(s|inf, s|inf, mode)), want)
			for _, f := range append(finite()[2:], inf, sign|inf) {
				expect(t, "a product's infinity and another", mode, told(sfloat.Fma(s|inf, f, s&sign^f&sign^sign|inf, mode)), want)
				expect(t, "a product's infinity and another, turned", mode, told(sfloat.Fma(f, s|inf, s&sign^f&sign^sign|inf, mode)), want)
			}
		}
		for _, f := range append(sizes()[1:], inf) {
			expect(t, "a root of what is below nought", mode, told(sfloat.Sqrt(sign|f, mode)), want)
		}
	}
}

// P302: else with infinities as limits say, by every mode and with no flags.
func TestP302Infinities(t *testing.T) {
	for _, mode := range modes() {
		is := func(what string, got answer, f uint64) {
			t.Helper()
			expect(t, what, mode, got, answer{f, 0})
		}
		is("root", told(sfloat.Sqrt(inf, mode)), inf)
		for _, s := range []uint64{0, sign} {
			end := s | inf
			is("alike added", told(sfloat.Add(end, end, mode)), end)
			is("unlike taken away", told(sfloat.Sub(end, end^sign, mode)), end)
			is("times itself", told(sfloat.Mul(end, end, mode)), inf)
			is("times the other", told(sfloat.Mul(end, end^sign, mode)), sign|inf)
			is("product and c alike", told(sfloat.Fma(end, one, end, mode)), end)
			is("product of two", told(sfloat.Fma(end, end, inf, mode)), inf)
			for _, f := range finite() {
				u := (s ^ f) & sign
				is("added", told(sfloat.Add(end, f, mode)), end)
				is("added to f", told(sfloat.Add(f, end, mode)), end)
				is("less f", told(sfloat.Sub(end, f, mode)), end)
				is("f less it", told(sfloat.Sub(f, end, mode)), end^sign)
				is("by f", told(sfloat.Div(end, f, mode)), u|inf)
				is("f by it", told(sfloat.Div(f, end, mode)), u)
				is("f f and it", told(sfloat.Fma(f, f, end, mode)), end)
				is("-f f and it", told(sfloat.Fma(f^sign, f, end, mode)), end)
				if f&^sign == 0 {
					continue
				}
				is("times f", told(sfloat.Mul(end, f, mode)), u|inf)
				is("f times it", told(sfloat.Mul(f, end, mode)), u|inf)
				is("times f and c", told(sfloat.Fma(end, f, sign|great, mode)), u|inf)
				is("f times it and c", told(sfloat.Fma(f, end, great, mode)), u|inf)
			}
		}
	}
}

func TestP302ByZero(t *testing.T) {
	for _, mode := range modes() {
		for _, f := range finite()[2:] {
			expect(t, "by nought", mode, told(sfloat.Div(f, 0, mode)), answer{f&sign | inf, api.ByZero})
			expect(t, "by -0", mode, told(sfloat.Div(f, sign, mode)), answer{^f&sign | inf, api.ByZero})
		}
	}
}

// P302: by Even as the machine does it, any patterns.
func TestP302AsTheMachine(t *testing.T) {
	r := rand.New(rand.NewSource(3025))
	ends := append(finite(), inf, sign|inf, none, inf+1, sign|(inf+7))
	one := func() uint64 {
		switch r.Intn(3) {
		case 0:
			return ends[r.Intn(len(ends))]
		case 1:
			return r.Uint64()
		}
		return thrown(r)
	}
	for range 100000 {
		a, b, c := one(), one(), one()
		x, y, z := math.Float64frombits(a), math.Float64frombits(b), math.Float64frombits(c)
		for name, want := range map[string]float64{"Add": x + y, "Sub": x - y, "Mul": x * y, "Div": x / y, "Sqrt": math.Sqrt(x), "Fma": math.FMA(x, y, z)} {
			f := math.Float64bits(want)
			if math.IsNaN(want) {
				f = none
			}
			if got := calls()[name](a, b, c, api.Even); got.f != f {
				t.Fatalf("%s(%x, %x, %x): %x, not %x", name, a, b, c, got.f, f)
			}
		}
	}
}

func TestP303Cmp(t *testing.T) {
	list := append(finite(), inf, sign|inf)
	for _, a := range list {
		for _, b := range list {
			x, y := math.Float64frombits(a), math.Float64frombits(b)
			want := 0
			if x < y {
				want = -1
			}
			if x > y {
				want = 1
			}
			if order, is := sfloat.Cmp(a, b); order != want || !is {
				t.Errorf("Cmp(%x, %x): %d, %v", a, b, order, is)
			}
		}
	}
	for _, x := range nones() {
		for _, f := range append(list, none, x) {
			if order, is := sfloat.Cmp(x, f); order != 0 || is {
				t.Errorf("Cmp(%x, %x): %d, %v", x, f, order, is)
			}
			if order, is := sfloat.Cmp(f, x); order != 0 || is {
				t.Errorf("Cmp(%x, %x): %d, %v", f, x, order, is)
			}
		}
	}
}

func TestP303CmpThrown(t *testing.T) {
	r := rand.New(rand.NewSource(303))
	for range 5000 {
		a, b := thrown(r), thrown(r)
		if order, is := sfloat.Cmp(a, b); order != bigOf(a).Cmp(bigOf(b)) || !is {
			t.Fatalf("Cmp(%x, %x): %d, %v", a, b, order, is)
		}
	}
}

func TestP303NextByHand(t *testing.T) {
	for _, x := range []struct{ f, above, below uint64 }{
		{0, 1, sign | 1},
		{sign, 1, sign | 1},
		{1, 2, 0},
		{sign | 1, sign, sign | 2},
		{2, 3, 1},
		{usual - 1, usual, usual - 2},
		{usual, usual + 1, usual - 1},
		{sign | usual, sign | (usual - 1), sign | (usual + 1)},
		{2*usual - 1, 2 * usual, 2*usual - 2},
		{one, one + 1, one - 1},
		{sign | one, sign | (one - 1), sign | (one + 1)},
		{great, inf, great - 1},
		{sign | great, sign | (great - 1), sign | inf},
		{inf, inf, great},
		{sign | inf, sign | great, sign | inf},
	} {
		if up, down := sfloat.Next(x.f, true), sfloat.Next(x.f, false); up != x.above || down != x.below {
			t.Errorf("Next of %x: %x, %x", x.f, up, down)
		}
	}
	for _, x := range nones() {
		if up, down := sfloat.Next(x, true), sfloat.Next(x, false); up != none || down != none {
			t.Errorf("Next of %x: %x, %x", x, up, down)
		}
	}
}

// P303: nothing lies between a float and the next one, and the way back is
// the way there.
func TestP303NextThrown(t *testing.T) {
	r := rand.New(rand.NewSource(3031))
	for range 5000 {
		f := thrown(r)
		x := math.Float64frombits(f)
		up, down := sfloat.Next(f, true), sfloat.Next(f, false)
		if math.Float64frombits(up) != math.Nextafter(x, math.Inf(1)) || math.Float64frombits(down) != math.Nextafter(x, math.Inf(-1)) {
			t.Fatalf("Next of %x: %x, %x", f, up, down)
		}
		if f&^sign > 1 && (sfloat.Next(up, false) != f || sfloat.Next(down, true) != f) {
			t.Fatalf("back to %x: from %x, %x", f, up, down)
		}
	}
}
