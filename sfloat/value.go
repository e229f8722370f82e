package sfloat

import (
	"math/bits"

	"anticline/api"
	"anticline/nat"
)

const (
	fractionBits = 52
	leastPlace   = -1074 // the last bit of a subnormal float is worth 2 to this
)

// value is an infinity, or a number as exact as rounding needs it: size times
// 2^exp.
type value struct {
	neg, endless bool
	size         wide
	exp          int
}

// valueOf takes a float apart; its size has but a lower word.
func valueOf(f uint64) value {
	v := value{neg: f&signBit != 0, exp: leastPlace}
	field := f &^ signBit >> fractionBits
	fraction := f & (1<<fractionBits - 1)
	switch {
	case f&^signBit == infinity:
		return value{neg: v.neg, endless: true}
	case field != 0:
		fraction |= 1 << fractionBits
		v.exp += int(field) - 1
	}
	v.size.lo = fraction
	return v
}

// ratio shifts one of both terms so that their quotient fills one word, but
// for a bit or two: far more than a float holds.
func ratio(a api.Rat) value {
	shift := wordBits - 1 - (nat.Bits(a.N) - nat.Bits(a.D))
	n, d := nat.Shl(a.N, max(shift, 0)), nat.Shl(a.D, max(-shift, 0))
	q, r, _ := nat.Div(n, d)
	digits, _ := nat.Small(q)
	return value{neg: a.Neg, size: wide{digits, rest(uint64(len(r)))}, exp: -shift - wordBits}
}

func (v value) isNought() bool {
	return !v.endless && v.size.isNought()
}

func (v value) sign() uint64 {
	if v.neg {
		return signBit
	}
	return 0
}

// lifted is the same number with just so much room above its highest bit.
func (v value) lifted(room int) value {
	shift := v.size.free() - room
	v.size = v.size.up(shift)
	v.exp -= shift
	return v
}

// plus adds floats or products of two: these leave the low bits of a lifted
// size 0. So a bit that stands for what was lost of the lesser one is not
// carried away, and where the sum has far fewer digits nothing was lost.
func (v value) plus(w value) value {
	if v.isNought() {
		return w
	}
	if w.isNought() {
		return v
	}
	v, w = v.lifted(1), w.lifted(1)
	if v.exp < w.exp {
		v, w = w, v
	}
	w.size = w.size.down(v.exp - w.exp)
	w.exp = v.exp
	if v.neg == w.neg {
		v.size = v.size.plus(w.size)
		return v
	}
	if v.size.less(w.size) {
		v, w = w, v
	}
	v.size = v.size.minus(w.size)
	return v
}

// times multiplies floats, noughts among them.
func (v value) times(w value) value {
	return value{
		neg:  v.neg != w.neg,
		size: product(v.size.lo, w.size.lo),
		exp:  v.exp + w.exp,
	}
}

// over divides floats, neither of them nought. The dividend is halved, for
// the machine's division wants its upper word below the divisor.
func (v value) over(w value) value {
	neg := v.neg != w.neg
	v, w = v.lifted(0), w.lifted(0)
	half := v.size.down(1)
	q, r := bits.Div64(half.hi, half.lo, w.size.hi)
	return value{
		neg:  neg,
		size: wide{q, rest(r)},
		exp:  v.exp + 1 - w.exp - 2*wordBits,
	}
}

// root is of a float above nought.
func (v value) root() value {
	even := v.lifted(0)
	if even.exp%2 != 0 {
		even = v.lifted(1)
	}
	r := even.size.root()
	left := even.size.minus(product(r, r))
	return value{
		size: wide{r, rest(left.hi | left.lo)},
		exp:  even.exp/2 - wordBits,
	}
}
