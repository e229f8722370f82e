package sfloat_test

import (
	"math/big"
	"math/rand"
	"testing"

	"anticline/api"
	"anticline/sfloat"
)

// lawful: P304's words, by sfloat's own Cmp and Next. What is no number is so
// by every mode.
func lawful(t *testing.T, what string, by func(mode int) answer) {
	t.Helper()
	down, up := by(api.Down), by(api.Up)
	order, is := sfloat.Cmp(down.f, up.f)
	if !is {
		for _, mode := range modes() {
			expect(t, what, mode, by(mode), down)
		}
		return
	}
	if order > 0 {
		t.Fatalf("%s: by Down %x, by Up %x", what, down.f, up.f)
	}
	if order < 0 && sfloat.Next(down.f, true) != up.f {
		t.Fatalf("%s: from %x to %x is more than one step", what, down.f, up.f)
	}
	if exact := down.flags&api.Inexact == 0; exact != (order == 0) || exact != (up.flags&api.Inexact == 0) {
		t.Fatalf("%s: %x, flags %d, and %x, flags %d", what, down.f, down.flags, up.f, up.flags)
	}
	for _, mode := range modes() {
		got := by(mode)
		low, _ := sfloat.Cmp(down.f, got.f)
		high, is := sfloat.Cmp(got.f, up.f)
		if low > 0 || high > 0 || !is {
			t.Fatalf("%s: %x by mode %d, not between %x and %x", what, got.f, mode, down.f, up.f)
		}
	}
}

func TestP304Operations(t *testing.T) {
	r := rand.New(rand.NewSource(304))
	ends := append(finite(), inf, sign|inf, none)
	pick := func() uint64 {
		if r.Intn(3) == 0 {
			return ends[r.Intn(len(ends))]
		}
		return thrown(r)
	}
	for range 8000 {
		a, b, c := pick(), pick(), pick()
		for name, call := range calls() {
			lawful(t, name, func(mode int) answer { return call(a, b, c, mode) })
		}
	}
}

func TestP304Of(t *testing.T) {
	r := rand.New(rand.NewSource(3041))
	for range 2000 {
		v := new(big.Rat).SetFrac(bitsOf(r, 1+r.Intn(1200)), bitsOf(r, 1+r.Intn(1200)))
		if r.Intn(2) == 0 {
			v.Neg(v)
		}
		a := fromBig(v)
		lawful(t, v.String(), func(mode int) answer { return told(sfloat.Of(a, mode)) })
		down, _ := sfloat.Of(a, api.Down)
		up, _ := sfloat.Of(a, api.Up)
		if down&^sign != inf && bigOf(down).Cmp(v) > 0 || up&^sign != inf && bigOf(up).Cmp(v) < 0 {
			t.Fatalf("%v does not lie between %x and %x", v, down, up)
		}
	}
}
