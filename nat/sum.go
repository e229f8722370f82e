package nat

import (
	"anticline/api"
)

func Add(a, b []uint32) []uint32 {
	a, b = trim(a), trim(b)
	if len(a) < len(b) {
		a, b = b, a
	}
	sum := widen(a, 1)
	addTo(sum, b)
	return trim(sum)
}

func Sub(a, b []uint32) ([]uint32, api.Errno) {
	a, b = trim(a), trim(b)
	if Cmp(a, b) < 0 {
		return nil, api.ErrArg
	}
	rest := clone(a)
	takeFrom(rest, b)
	return trim(rest), api.OK
}

func Mul(a, b []uint32) []uint32 {
	a, b = trim(a), trim(b)
	product := make([]uint32, len(a)+len(b))
	for i, limb := range a {
		end := i + len(b)
		product[end] = addTimes(product[i:end:end], b, limb)
	}
	return trim(product)
}

// addTo adds b to room, which is at least as long. What goes out on top is
// dropped: Div counts on that when it mends a digit.
func addTo(room, b []uint32) {
	var carry uint64
	for i := range room {
		if i >= len(b) && carry == 0 {
			return
		}
		carry += uint64(room[i])
		if i < len(b) {
			carry += uint64(b[i])
		}
		room[i] = uint32(carry)
		carry >>= limbBits
	}
}

// takeFrom takes b away from room, which is at least as long and not less.
func takeFrom(room, b []uint32) {
	var borrow uint64
	for i := range room {
		if i >= len(b) && borrow == 0 {
			return
		}
		rest := uint64(room[i]) - borrow
		if i < len(b) {
			rest -= uint64(b[i])
		}
		room[i] = uint32(rest)
		borrow = rest >> 63
	}
}

// addTimes adds m times b to room, which is as long as b, and answers what
// goes out on top.
func addTimes(room, b []uint32, m uint32) uint32 {
	var carry uint64
	for i, limb := range b {
		carry += uint64(m)*uint64(limb) + uint64(room[i])
		room[i] = uint32(carry)
		carry >>= limbBits
	}
	return uint32(carry)
}
