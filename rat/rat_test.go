package rat_test

import (
	"math"
	"math/big"
	"math/rand"
	"testing"

	"anticline/api"
	"anticline/rat"
)

func TestP201Make(t *testing.T) {
	r := rand.New(rand.NewSource(201))
	list := edgeWholes()
	for range 60 {
		list = append(list, whole(r, 9))
	}
	for _, n := range list {
		for _, d := range list {
			for _, neg := range []bool{false, true} {
				got, e := rat.Make(neg, n, d)
				if len(d) == 0 {
					refused(t, "Make", got, e)
					continue
				}
				if e != api.OK {
					t.Fatalf("Make(%v, %v, %v): %v", neg, n, d, e)
				}
				same(t, "Make", got, toBig(neg, n, d))
			}
		}
	}
}

// refused: ErrZero, and nothing beside it.
func refused(t *testing.T, what string, got api.Rat, e api.Errno) {
	t.Helper()
	if e != api.ErrZero || !isZero(got) {
		t.Fatalf("%s by nought: %v, %v", what, got, e)
	}
}

// P201: nought has no sign and is over one, however it is handed in.
func TestP201MakeNought(t *testing.T) {
	for _, neg := range []bool{false, true} {
		for _, n := range [][]uint32{nil, {}} {
			for _, d := range edgeWholes()[1:] {
				got, e := rat.Make(neg, n, d)
				if e != api.OK || !equal(got, api.Rat{D: []uint32{1}}) {
					t.Errorf("Make(%v, %v, %v): %v, %v", neg, n, d, got, e)
				}
			}
			for _, d := range [][]uint32{nil, {}} {
				got, e := rat.Make(neg, n, d)
				refused(t, "Make", got, e)
			}
		}
	}
}

// P201: terms of thousands of limbs, with a thousand in common.
func TestP201MakeLong(t *testing.T) {
	r := rand.New(rand.NewSource(2011))
	a, b := long(r, 2000), long(r, 1000)
	n := fromInt(new(big.Int).Mul(toInt(a.N), toInt(b.N)))
	d := fromInt(new(big.Int).Mul(toInt(a.D), toInt(b.N)))
	got, e := rat.Make(a.Neg, n, d)
	if e != api.OK || !equal(got, a) {
		t.Error("2000 limbs times 1000 over as many")
	}
}

func TestP201Of(t *testing.T) {
	list := []int{0, 1, -1, 2, -2, 3, 4, 6, -6, 9, 10, -35, 1 << 31, -1 << 31, 1<<32 - 1, 1 << 32, -1 << 32, 1<<62 + 2, math.MaxInt, -math.MaxInt, math.MaxInt - 1, math.MinInt, math.MinInt + 1, math.MinInt + 2}
	for _, n := range list {
		for _, d := range list {
			got, e := rat.Of(n, d)
			if d == 0 {
				refused(t, "Of", got, e)
				continue
			}
			if e != api.OK {
				t.Fatalf("Of(%d, %d): %v", n, d, e)
			}
			same(t, "Of", got, new(big.Rat).SetFrac(big.NewInt(int64(n)), big.NewInt(int64(d))))
		}
	}
}

func TestP201OfByHand(t *testing.T) {
	for _, x := range []struct {
		n, d int
		want api.Rat
	}{
		{6, -4, api.Rat{Neg: true, N: []uint32{3}, D: []uint32{2}}},
		{-6, -4, api.Rat{N: []uint32{3}, D: []uint32{2}}},
		{0, math.MinInt, api.Rat{D: []uint32{1}}},
		{math.MinInt, math.MinInt, api.Rat{N: []uint32{1}, D: []uint32{1}}},
		{math.MinInt, -1, api.Rat{N: []uint32{0, 1 << 31}, D: []uint32{1}}},
		{math.MinInt, 1, api.Rat{Neg: true, N: []uint32{0, 1 << 31}, D: []uint32{1}}},
		{-1, math.MinInt, api.Rat{N: []uint32{1}, D: []uint32{0, 1 << 31}}},
		{math.MaxInt, math.MinInt, api.Rat{Neg: true, N: []uint32{top, 1<<31 - 1}, D: []uint32{0, 1 << 31}}},
	} {
		if got, e := rat.Of(x.n, x.d); e != api.OK || !equal(got, x.want) {
			t.Errorf("Of(%d, %d): %v, %v", x.n, x.d, got, e)
		}
	}
}

func TestP201Right(t *testing.T) {
	r := rand.New(rand.NewSource(2012))
	list := edges()
	for range 300 {
		list = append(list, thrown(r, 10))
	}
	for _, a := range append(list, long(r, 1500)) {
		if !rat.Right(a) {
			t.Fatalf("%v is refused", a)
		}
	}
	if !rat.Right(api.Rat{N: []uint32{}, D: []uint32{1}}) {
		t.Error("nought with an empty list is refused")
	}
}

// wrong: what is no number, and why.
func wrong() map[string]api.Rat {
	one := []uint32{1}
	return map[string]api.Rat{
		"no denominator":                      {},
		"no denominator, with a sign":         {Neg: true},
		"one over nought":                     {N: one},
		"minus one over nought":               {Neg: true, N: one, D: []uint32{}},
		"five over nought":                    {N: []uint32{5}},
		"nought below nought":                 {Neg: true, D: one},
		"nought over two":                     {D: []uint32{2}},
		"nought over 2^32":                    {D: []uint32{0, 1}},
		"nought over 2^32 + 1":                {D: []uint32{1, 1}},
		"nought below nought over two":        {Neg: true, D: []uint32{2}},
		"a nought on top of N":                {N: []uint32{3, 0}, D: one},
		"a nought on top of D":                {N: []uint32{3}, D: []uint32{1, 0}},
		"noughts on top of both":              {N: []uint32{3, 0, 0}, D: []uint32{2, 0}},
		"nought written as a limb":            {N: []uint32{0}, D: one},
		"D's nought written as a limb":        {N: one, D: []uint32{0}},
		"D's nought written as two limbs":     {N: one, D: []uint32{0, 0}},
		"two over two":                        {N: []uint32{2}, D: []uint32{2}},
		"minus six over four":                 {Neg: true, N: []uint32{6}, D: []uint32{4}},
		"a number over itself":                {N: []uint32{7, top}, D: []uint32{7, top}},
		"2^32 in common":                      {N: []uint32{0, 3}, D: []uint32{0, 5}},
		"2^32 + 1 in common":                  {N: []uint32{3, 3}, D: []uint32{5, 5}},
		"two in common, above the first limb": {N: []uint32{0, 0, 1}, D: []uint32{6, 0, 0, 1}},
	}
}

func TestP201RightRefuses(t *testing.T) {
	for why, a := range wrong() {
		if rat.Right(a) {
			t.Errorf("%s: %v is right", why, a)
		}
	}
}

// P201: of all small terms just the lowest are right.
func TestP201RightOfSmallTerms(t *testing.T) {
	for n := range uint32(40) {
		for d := range uint32(40) {
			for _, neg := range []bool{false, true} {
				a := api.Rat{Neg: neg, N: limb(n), D: limb(d)}
				want := d != 0 && equal(a, fromBig(toBig(neg, a.N, a.D)))
				if rat.Right(a) != want {
					t.Errorf("Right of %v: not %v", a, want)
				}
			}
		}
	}
}

func limb(v uint32) []uint32 {
	if v == 0 {
		return nil
	}
	return []uint32{v}
}

// P201: what Right says of terms with a factor in common, great and small.
func TestP201RightOfTermsInCommon(t *testing.T) {
	r := rand.New(rand.NewSource(2013))
	for range 500 {
		a, m := thrown(r, 8), whole(r, 3)
		if len(m) == 0 {
			m = []uint32{1}
		}
		n := fromInt(new(big.Int).Mul(toInt(a.N), toInt(m)))
		d := fromInt(new(big.Int).Mul(toInt(a.D), toInt(m)))
		one := len(m) == 1 && m[0] == 1
		if rat.Right(api.Rat{Neg: a.Neg, N: n, D: d}) != one {
			t.Fatalf("%v, both terms times %v", a, m)
		}
	}
}
