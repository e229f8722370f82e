package sfloat

import (
	"anticline/api"
)

// rule is how a mode rounds. Of a size that lies between two floats' sizes
// three bits tell all that counts: the last one that the lesser float keeps,
// the next one, and whether there is more. Bit number i of above, for what is
// above nought, and of below says whether the greater size is taken where
// these three are i.
type rule struct {
	above, below uint8
	minus        bool // a sum of unlike signs that is nought is -0
}

const (
	inward  = 0b00000000
	outward = 0b11101110 // as soon as there is anything
	evenly  = 0b11001000 // beyond the half, and from it if the last bit is 1
	halfOut = 0b11001100 // from the half on
)

var rules = [...]rule{
	api.Even: {above: evenly, below: evenly},
	api.Cut:  {above: inward, below: inward},
	api.Down: {above: inward, below: outward, minus: true},
	api.Up:   {above: outward, below: inward},
	api.Away: {above: halfOut, below: halfOut},
}

func ruleOf(mode int) rule {
	if mode < 0 || mode >= len(rules) {
		mode = api.Even
	}
	return rules[mode]
}

// greater is 1 where of two sizes the greater one is taken.
func (r rule) greater(neg bool, three uint64) uint64 {
	if neg {
		return uint64(r.below) >> three & 1
	}
	return uint64(r.above) >> three & 1
}

// beyond is what stands for a size of 2^1024 or more. It lies behind the
// greatest float, whose last bit is 1, and more than half a step: the same
// rule tells on which side.
func (r rule) beyond(neg bool) uint64 {
	return greatest + r.greater(neg, 0b111)
}

// round keeps two bits more than the float has, and the one that stands for
// the rest. A fraction that grows beyond its bits counts the exponent up by
// itself, from the subnormal floats into those of usual size, too.
func (r rule) round(v value) (f uint64, flags int) {
	if v.endless {
		return v.sign() | infinity, 0
	}
	if v.isNought() {
		return v.sign(), 0
	}
	v = v.lifted(0)
	highest := v.exp + wideBits - 1 - fractionBits
	place := max(highest, leastPlace)
	kept := v.size.down(place - 2 - v.exp).lo
	three := kept & 0b111
	field := uint64(min(place-leastPlace, 0x7fe))
	size := field<<fractionBits + kept>>2 + r.greater(v.neg, three)
	switch {
	case size >= infinity:
		return v.sign() | r.beyond(v.neg), api.Over | api.Inexact
	case three&0b011 == 0:
		return v.sign() | size, 0
	case highest < leastPlace:
		return v.sign() | size, api.Under | api.Inexact
	}
	return v.sign() | size, api.Inexact
}

func (r rule) sum(v []value) (f uint64, flags int) {
	return r.add(v[0], v[1])
}

func (r rule) product(v []value) (f uint64, flags int) {
	exact, is := multiply(v[0], v[1])
	if !is {
		return none, api.Invalid
	}
	return r.round(exact)
}

func (r rule) sumOfProduct(v []value) (f uint64, flags int) {
	exact, is := multiply(v[0], v[1])
	if !is {
		return none, api.Invalid
	}
	return r.add(exact, v[2])
}

func (r rule) quotient(v []value) (f uint64, flags int) {
	a, b := v[0], v[1]
	neg := a.neg != b.neg
	switch {
	case a.endless && b.endless || a.isNought() && b.isNought():
		return none, api.Invalid
	case a.endless:
		return r.round(value{neg: neg, endless: true})
	case b.endless || a.isNought():
		return r.round(value{neg: neg})
	case b.isNought():
		f, _ = r.round(value{neg: neg, endless: true})
		return f, api.ByZero
	}
	return r.round(a.over(b))
}

func (r rule) root(v []value) (f uint64, flags int) {
	a := v[0]
	switch {
	case a.isNought():
		return r.round(a)
	case a.neg:
		return none, api.Invalid
	case a.endless:
		return r.round(a)
	}
	return r.round(a.root())
}

func (r rule) add(a, b value) (f uint64, flags int) {
	switch {
	case a.endless && b.endless && a.neg != b.neg:
		return none, api.Invalid
	case a.endless:
		return r.round(a)
	case b.endless:
		return r.round(b)
	}
	sum := a.plus(b)
	if sum.isNought() && a.neg != b.neg {
		sum.neg = r.minus
	}
	return r.round(sum)
}

// multiply says false where there is no product.
func multiply(a, b value) (value, bool) {
	if a.endless && b.isNought() || a.isNought() && b.endless {
		return value{}, false
	}
	if a.endless || b.endless {
		return value{neg: a.neg != b.neg, endless: true}, true
	}
	return a.times(b), true
}
