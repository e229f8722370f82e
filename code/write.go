package code

import "anticline/api"

const (
	headSize  = 3 // Kind, N, R
	signSize  = 1
	countSize = 1
	limbSize  = 4
)

// size: how many bytes a Gen of these numbers takes.
func size(numbers []api.Rat) int {
	sum := headSize
	for _, a := range numbers {
		sum += signSize + 2*countSize + limbSize*(len(a.N)+len(a.D))
	}
	return sum
}

// put fills the front of what is left to fill, and answers what is left then.
func put(left []byte, front ...byte) []byte {
	return left[copy(left, front):]
}

func putNumber(left []byte, a api.Rat) []byte {
	neg := byte(0)
	if a.Neg {
		neg = 1
	}
	return putLimbs(putLimbs(put(left, neg), a.N), a.D)
}

func putLimbs(left []byte, limbs []uint32) []byte {
	left = put(left, byte(len(limbs)))
	for _, limb := range limbs {
		left = put(left, byte(limb), byte(limb>>8), byte(limb>>16), byte(limb>>24))
	}
	return left
}
