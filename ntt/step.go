package ntt

import "anticline/api"

// generator's powers are all remainders but nought.
const generator = 3

// step is how so many points become their sums: with powers of root, and each
// sum times share.
type step struct{ root, share uint32 }

// stepsOf tells the step of each number of points that there may be.
func stepsOf(back bool) map[int]step {
	steps := map[int]step{}
	for n := 1; n <= api.MaxPoints; n *= 2 {
		steps[n] = stepOf(n, back)
	}
	return steps
}

func stepOf(n int, back bool) step {
	part := (api.Prime - 1) / n
	if back {
		return step{root: Pow(generator, -part), share: inverse(uint32(n))}
	}
	return step{root: Pow(generator, part), share: 1}
}
