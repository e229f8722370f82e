package sfloat_test

import (
	"math/big"
	"math/rand"
	"testing"

	"anticline/api"
	"anticline/rat"
	"anticline/sfloat"
)

func TestP302OfNought(t *testing.T) {
	for _, mode := range modes() {
		for _, n := range [][]uint32{nil, {}} {
			got := told(sfloat.Of(api.Rat{N: n, D: []uint32{1}}, mode))
			expect(t, "nought", mode, got, answer{0, 0})
		}
	}
}

func TestP302OfByHand(t *testing.T) {
	for _, x := range []struct {
		n, d, mode int
		want       answer
	}{
		{1, 1, api.Even, answer{one, 0}},
		{-2, 1, api.Down, answer{sign | two, 0}},
		{1, 3, api.Even, answer{0x3fd5555555555555, api.Inexact}},
		{1, 3, api.Up, answer{0x3fd5555555555556, api.Inexact}},
		{-1, 3, api.Up, answer{0xbfd5555555555555, api.Inexact}},
		{2, 3, api.Even, answer{0x3fe5555555555555, api.Inexact}},
		{1, 10, api.Even, answer{0x3fb999999999999a, api.Inexact}},
		{1, 10, api.Cut, answer{0x3fb9999999999999, api.Inexact}},
		{1<<53 + 1, 1, api.Even, answer{0x4340000000000000, api.Inexact}},
		{1<<53 + 1, 1, api.Away, answer{0x4340000000000001, api.Inexact}},
		{1<<53 + 3, 1, api.Even, answer{0x4340000000000002, api.Inexact}},
		{1<<63 - 1, 1, api.Even, answer{0x43e0000000000000, api.Inexact}},
		{1<<63 - 1, 1, api.Down, answer{0x43dfffffffffffff, api.Inexact}},
	} {
		a, e := rat.Of(x.n, x.d)
		if e != api.OK {
			t.Fatal(e)
		}
		expect(t, rat.Text(a), x.mode, told(sfloat.Of(a, x.mode)), x.want)
	}
}

// P302: thousands of limbs, where a float or a half between two is missed by
// as little as can be, or not at all.
func TestP302OfLong(t *testing.T) {
	r := rand.New(rand.NewSource(3026))
	for _, limbs := range []int{3, 40, 700, 3990} {
		for _, f := range []uint64{1, usual - 1, usual, one, one + 1, two - 1, 0x4340000000000003, great} {
			for _, v := range []*big.Rat{bigOf(f), between(f)} {
				d := bitsOf(r, 32*limbs-64)
				n := new(big.Int).Mul(d, v.Num())
				n.Div(n, v.Denom()) // less than one too little
				if n.BitLen() > 32*4000 {
					continue
				}
				for _, more := range []int64{-1, 0, 1, 2} {
					w := new(big.Rat).SetFrac(new(big.Int).Add(n, big.NewInt(more)), d)
					if w.Sign() == 0 {
						continue
					}
					for _, mode := range modes()[:6] {
						expect(t, "long", mode, of(w, mode), rounded(w, mode))
						w.Neg(w)
						expect(t, "long", mode, of(w, mode), rounded(w, mode))
					}
				}
			}
		}
	}
}

// P302: one term of thousands of limbs, the other one short.
func TestP302OfLongAndShort(t *testing.T) {
	long := new(big.Int).Lsh(big.NewInt(1), 32*4000-1)
	long.Add(long, big.NewInt(1))
	three := big.NewInt(3)
	if new(big.Int).Mod(long, three).Sign() == 0 {
		long.Add(long, big.NewInt(2))
	}
	for _, v := range []*big.Rat{new(big.Rat).SetFrac(long, three), new(big.Rat).SetFrac(three, long)} {
		for _, mode := range modes()[:6] {
			expect(t, "long and short", mode, of(v, mode), rounded(v, mode))
			v.Neg(v)
			expect(t, "long and short", mode, of(v, mode), rounded(v, mode))
		}
	}
}

func TestP302Rat(t *testing.T) {
	r := rand.New(rand.NewSource(3027))
	list := finite()
	for range 3000 {
		list = append(list, thrown(r))
	}
	for _, f := range list {
		a, e := sfloat.Rat(f)
		if e != api.OK || !rat.Same(a, fromBig(bigOf(f))) || !rat.Right(a) {
			t.Fatalf("Rat of %x: %v, %v", f, a, e)
		}
		for _, mode := range modes()[:6] {
			want := answer{f, 0}
			if f == sign {
				want.f = 0
			}
			expect(t, "there and back", mode, told(sfloat.Of(a, mode)), want)
		}
	}
	nought := api.Rat{D: []uint32{1}}
	for _, f := range []uint64{0, sign} {
		if a, e := sfloat.Rat(f); e != api.OK || !rat.Same(a, nought) {
			t.Errorf("Rat of %x: %v, %v", f, a, e)
		}
	}
}

// P302, P4: ErrRange, and nothing beside it.
func TestP302RatRefuses(t *testing.T) {
	for _, f := range append(nones(), inf, sign|inf) {
		if a, e := sfloat.Rat(f); e != api.ErrRange || a.Neg || len(a.N)+len(a.D) != 0 {
			t.Errorf("Rat of %x: %v, %v", f, a, e)
		}
	}
}
