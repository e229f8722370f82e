package nat

import (
	"math/bits"

	"anticline/api"
)

func Div(a, b []uint32) (q, r []uint32, e api.Errno) {
	a, b = trim(a), trim(b)
	if len(b) == 0 {
		return nil, nil, api.ErrZero
	}
	q, r = divide(a, b)
	return q, r, api.OK
}

// divide is Div of trimmed numbers, b not nought.
func divide(a, b []uint32) (q, r []uint32) {
	if Cmp(a, b) < 0 {
		return nil, clone(a)
	}
	if len(b) == 1 {
		q = clone(a)
		rest := divideByLimb(q, b[0])
		return trim(q), Of(uint64(rest))
	}
	return divideLong(a, b)
}

// divideByLimb makes room its quotient by d and answers what is left.
func divideByLimb(room []uint32, d uint32) uint32 {
	var rest uint64
	for i := len(room) - 1; i >= 0; i-- {
		rest = rest<<limbBits | uint64(room[i])
		room[i] = uint32(rest / uint64(d))
		rest %= uint64(d)
	}
	return uint32(rest)
}

// divideLong is long division, limb by limb, for a not less than b and b of
// two limbs or more. Both are shifted until b's top bit is set: only then a
// digit guessed from the top limbs is at most one too great.
func divideLong(a, b []uint32) (q, r []uint32) {
	n := len(b)
	shift := bits.LeadingZeros32(b[n-1])
	divisor, rest := clone(b), widen(a, 1)
	moveUp(divisor, shift)
	moveUp(rest, shift)
	q = make([]uint32, len(a)-n+1)
	for i := len(q) - 1; i >= 0; i-- {
		end := i + n + 1
		q[i] = nextDigit(rest[i:end:end], divisor)
	}
	r = rest[:n:n]
	moveDown(r, shift)
	return trim(q), trim(r)
}

// nextDigit answers how often the divisor goes into part, which is one limb
// longer, and leaves in part what is left.
func nextDigit(part, divisor []uint32) uint32 {
	digit := guess(part, divisor)
	if takeTimes(part, divisor, digit) {
		digit--
		addTo(part, divisor)
	}
	return digit
}

// guess tells a digit from the three top limbs of part and the two top limbs
// of the divisor: the right one, or one too great.
func guess(part, divisor []uint32) uint32 {
	n := len(divisor)
	first, second := uint64(divisor[n-1]), uint64(divisor[n-2])
	top := uint64(part[n])<<limbBits | uint64(part[n-1])
	digit, rest := top/first, top%first
	for digit>>limbBits != 0 || digit*second > rest<<limbBits|uint64(part[n-2]) {
		digit--
		rest += first
		if rest>>limbBits != 0 {
			break
		}
	}
	return uint32(digit)
}

// takeTimes takes m times b away from room, which is one limb longer, and
// tells whether that went below nought.
func takeTimes(room, b []uint32, m uint32) bool {
	var carry, borrow uint64
	for i := range room {
		if i < len(b) {
			carry += uint64(m) * uint64(b[i])
		}
		rest := uint64(room[i]) - uint64(uint32(carry)) - borrow
		room[i] = uint32(rest)
		borrow = rest >> 63
		carry >>= limbBits
	}
	return borrow != 0
}
