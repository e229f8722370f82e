package ntt

import "anticline/api"

func areRemainders(l []uint32) bool {
	for _, a := range l {
		if a >= api.Prime {
			return false
		}
	}
	return true
}

// plus is of two remainders: twice the prime fits into 32 bits.
func plus(a, b uint32) uint32 {
	return (a + b) % api.Prime
}

func minus(a, b uint32) uint32 {
	return plus(a, api.Prime-b)
}

// times takes any two numbers, not remainders alone.
func times(a, b uint32) uint32 {
	return uint32(uint64(a) * uint64(b) % api.Prime)
}

func power(a uint32, n uint) uint32 {
	answer := uint32(1)
	for square := a; n > 0; n /= 2 {
		if n%2 == 1 {
			answer = times(answer, square)
		}
		square = times(square, square)
	}
	return answer
}

// inverse goes by Fermat's little theorem, which leaves nought of a multiple
// of the prime.
func inverse(a uint32) uint32 {
	return power(a, api.Prime-2)
}
