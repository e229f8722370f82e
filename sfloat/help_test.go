package sfloat_test

import (
	"math"
	"math/big"
	"math/rand"
	"testing"

	"anticline/api"
)

const (
	sign  = 1 << 63
	inf   = 0x7ff << 52
	none  = 0x7ff8000000000000
	great = inf - 1 // the greatest finite one
	usual = 1 << 52 // the least one of usual size, 2^-1022
	one   = 0x3ff << 52
	two   = 0x400 << 52
)

// modes: all of them, and some that are none.
func modes() []int {
	return []int{api.Even, api.Cut, api.Down, api.Up, api.Away, 5, -1, 9, math.MinInt, math.MaxInt}
}

// nearEven: by Even, and by what is no mode.
func nearEven(mode int) bool {
	return mode == api.Even || mode < 0 || mode > api.Away
}

// bigOf reads a finite float by the machine and math/big, which know nothing
// of the program.
func bigOf(f uint64) *big.Rat {
	return new(big.Rat).SetFloat64(math.Float64frombits(f))
}

func pow2(k int) *big.Rat {
	v := new(big.Rat).SetInt(new(big.Int).Lsh(big.NewInt(1), uint(max(k, -k))))
	if k < 0 {
		v.Inv(v)
	}
	return v
}

func fromInt(v *big.Int) []uint32 {
	bytes := v.Bytes()
	a := make([]uint32, (len(bytes)+3)/4)
	for i, b := range bytes {
		at := len(bytes) - 1 - i
		a[at/4] |= uint32(b) << (at % 4 * 8)
	}
	return a
}

func fromBig(v *big.Rat) api.Rat {
	return api.Rat{Neg: v.Sign() < 0, N: fromInt(v.Num()), D: fromInt(v.Denom())}
}

func toBig(a api.Rat) *big.Rat {
	read := func(limbs []uint32) *big.Int {
		v := new(big.Int)
		for i := len(limbs) - 1; i >= 0; i-- {
			v.Lsh(v, 32).Or(v, big.NewInt(int64(limbs[i])))
		}
		return v
	}
	v := new(big.Rat).SetFrac(read(a.N), read(a.D))
	if a.Neg {
		v.Neg(v)
	}
	return v
}

// answer is a float and the flags beside it.
type answer struct {
	f     uint64
	flags int
}

func told(f uint64, flags int) answer {
	return answer{f, flags}
}

// rounded says what P301 says, in its order: the floats on both sides, the
// one of them that the mode takes, and what if it is 2^1024.
func rounded(v *big.Rat, mode int) answer {
	neg, size := v.Sign() < 0, new(big.Rat).Abs(v)
	var s uint64
	if neg {
		s = sign
	}
	if size.Cmp(pow2(1024)) >= 0 {
		return told(s|beyond(neg, mode), api.Over|api.Inexact)
	}
	less := notAbove(size)
	if bigOf(less).Cmp(size) == 0 {
		return told(s|less, 0)
	}
	f := less
	if takesGreater(size, less, neg, mode) {
		f++
	}
	switch {
	case f == inf:
		return told(s|beyond(neg, mode), api.Over|api.Inexact)
	case size.Cmp(pow2(-1022)) < 0:
		return told(s|f, api.Under|api.Inexact)
	}
	return told(s|f, api.Inexact)
}

func beyond(neg bool, mode int) uint64 {
	if mode == api.Cut || mode == api.Down && !neg || mode == api.Up && neg {
		return great
	}
	return inf
}

// notAbove is the greatest float that is not above a size below 2^1024.
func notAbove(size *big.Rat) uint64 {
	f, _ := size.Float64()
	f = math.Min(f, math.MaxFloat64)
	if new(big.Rat).SetFloat64(f).Cmp(size) > 0 {
		f = math.Nextafter(f, 0)
	}
	return math.Float64bits(f)
}

func takesGreater(size *big.Rat, less uint64, neg bool, mode int) bool {
	switch mode {
	case api.Cut:
		return false
	case api.Down:
		return neg
	case api.Up:
		return !neg
	}
	c := size.Cmp(between(less))
	return c > 0 || c == 0 && (mode == api.Away || less&1 == 1)
}

// between is halfway from a float that is not below nought to the next one,
// as which 2^1024 stands behind the greatest.
func between(f uint64) *big.Rat {
	next := pow2(1024)
	if f+1 != inf {
		next = bigOf(f + 1)
	}
	v := next.Add(next, bigOf(f))
	return v.Mul(v, big.NewRat(1, 2))
}

func expect(t *testing.T, what string, mode int, got, want answer) {
	t.Helper()
	if got != want {
		t.Fatalf("%s, mode %d: %x, flags %d, not %x, flags %d", what, mode, got.f, got.flags, want.f, want.flags)
	}
}

// sizes: finite floats that are not below nought, in order, at the ends of
// what there is and where digits end.
func sizes() []uint64 {
	return []uint64{
		0, 1, 2, 3, 1 << 26, 1<<51 - 1, 1 << 51, usual - 2, usual - 1,
		usual, usual + 1, usual + 3, 2*usual - 1, 2 * usual, 54 * usual, 54*usual + 1,
		0x1ff0000000000000, 0x2000000000000001, 0x3c90000000000000, 0x3ca0000000000000, 0x3ca0000000000001,
		0x3cb0000000000000, 0x3fd5555555555555, 0x3fefffffffffffff,
		one, one + 1, one + 2, 0x3ff8000000000000, two - 1, two, two + 1, 0x4008000000000000,
		0x433fffffffffffff, 0x4340000000000000, 0x4340000000000001, 0x5fefffffffffffff, 0x6000000000000007,
		0x7c9fffffffffffff, 0x7ca0000000000000, 0x7fdfffffffffffff, 0x7fe0000000000000, great - 1, great,
	}
}

func signed(l []uint64) []uint64 {
	var both []uint64
	for _, f := range l {
		both = append(both, f, sign|f)
	}
	return both
}

// finite: sizes with both signs.
func finite() []uint64 {
	return signed(sizes())
}

// nones: patterns that are no number: each bit of the fraction alone, all but
// it, runs of bits, and some that are thrown, with both signs.
func nones() []uint64 {
	l := []uint64{none, inf + 1, inf + 5, sign - 1}
	for i := range 52 {
		l = append(l, inf|1<<i, (sign-1)&^(1<<i), inf|(1<<(i+1)-1))
	}
	r := rand.New(rand.NewSource(2))
	for range 200 {
		l = append(l, inf|1+uint64(r.Int63n(1<<52-1)))
	}
	return signed(l)
}

// thrown is a finite float: of any size, of a middling one, near the ends, or
// one of few digits.
func thrown(r *rand.Rand) uint64 {
	f := r.Uint64()
	switch r.Intn(7) {
	case 0:
		l := finite()
		return l[r.Intn(len(l))]
	case 1, 2:
		f = f&^(0x7ff<<52) | uint64(0x3ff-60+r.Intn(120))<<52
	case 3:
		f = f&^(0x7ff<<52) | uint64(r.Intn(60))<<52
	case 4:
		f = f&^(0x7ff<<52) | uint64(0x7fe-r.Intn(60))<<52
	case 5:
		f &^= 1<<(20+r.Intn(33)) - 1
	}
	if f&inf == inf {
		f ^= 1 << 62
	}
	return f
}
