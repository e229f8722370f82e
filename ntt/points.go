package ntt

import (
	"math/bits"

	"anticline/api"
)

// points are numbers to be transformed, as a value: what becomes of them
// touches no list that was handed in. Behind those in use are noughts.
type points [api.MaxPoints]uint32

func pointsOf(l []uint32) points {
	var p points
	copy(p[:], l)
	return p
}

// pointsFor: how many it takes to hold n numbers.
func pointsFor(n int) int {
	return 1 << bits.Len(uint(n-1))
}

func (p *points) list(n int) []uint32 {
	l := make([]uint32, n)
	copy(l, p[:n])
	return l
}

// transform makes sums of one point each, then of two, of four and so on, till
// they are of all n.
func (p *points) transform(n int, steps map[int]step) {
	p.scatter(n)
	for half := 1; half < n; half *= 2 {
		p.join(n, half, steps[2*half].root)
	}
	share := steps[n].share
	for k := range n {
		p[k] = times(p[k], share)
	}
}

// scatter puts points of even places ahead of those of odd ones, and within
// both likewise, down to one: the bits of a place are read backwards.
func (p *points) scatter(n int) {
	unused := bits.UintSize - bits.Len(uint(n-1))
	for k := range n {
		to := bits.Reverse(uint(k)) >> unused
		if uint(k) < to {
			p[k], p[to] = p[to], p[k]
		}
	}
}

// join makes of the sums of even and of odd places, which lie side by side,
// those of both. Half way round a power of root is its own negative.
func (p *points) join(n, half int, root uint32) {
	for at := 0; at < n; at += 2 * half {
		w := uint32(1)
		for k := at; k < at+half; k++ {
			even, odd := p[k], times(w, p[k+half])
			p[k], p[k+half] = plus(even, odd), minus(even, odd)
			w = times(w, root)
		}
	}
}

// product goes round behind n points, so they must hold all its coefficients.
func product(a, b points, n int) points {
	steps := stepsOf(false)
	a.transform(n, steps)
	b.transform(n, steps)
	for k := range n {
		a[k] = times(a[k], b[k])
	}
	a.transform(n, stepsOf(true))
	return a
}
