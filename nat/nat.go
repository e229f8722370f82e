// Package nat: natural numbers. See doc/01-nat.md.
package nat

import (
	"cmp"
	"math/bits"
)

const limbBits = 32

func Of(v uint64) []uint32 {
	return trim([]uint32{uint32(v), uint32(v >> limbBits)})
}

func Small(a []uint32) (uint64, bool) {
	a = trim(a)
	if len(a) > 2 {
		return 0, false
	}
	var v uint64
	for i, limb := range a {
		v |= uint64(limb) << (limbBits * i)
	}
	return v, true
}

func Right(a []uint32) bool {
	return len(a) == 0 || a[len(a)-1] != 0
}

func Cmp(a, b []uint32) int {
	a, b = trim(a), trim(b)
	if len(a) != len(b) {
		return cmp.Compare(len(a), len(b))
	}
	for i := len(a) - 1; i >= 0; i-- {
		if a[i] != b[i] {
			return cmp.Compare(a[i], b[i])
		}
	}
	return 0
}

func Bits(a []uint32) int {
	a = trim(a)
	if len(a) == 0 {
		return 0
	}
	top := len(a) - 1
	return limbBits*top + bits.Len32(a[top])
}

// trim leaves out the noughts on top, so that limbs which are no natural
// number do no harm either. It leaves out the spare room, too: whoever gets
// what it answers can't reach the memory behind it.
func trim(a []uint32) []uint32 {
	n := len(a)
	for n > 0 && a[n-1] == 0 {
		n--
	}
	return a[:n:n]
}

// widen copies a and puts so many noughts on top: room to work in.
func widen(a []uint32, noughts int) []uint32 {
	room := make([]uint32, len(a)+noughts)
	copy(room, a)
	return room
}

func clone(a []uint32) []uint32 {
	return widen(a, 0)
}
