package ntt_test

import (
	"math/rand"
	"slices"
	"testing"

	"anticline/api"
)

func TestP801TransformByHand(t *testing.T) {
	const half, w = 499122177, 911660635 // w times w is -1
	for _, x := range []struct{ l, forth, back []uint32 }{
		{[]uint32{7}, []uint32{7}, []uint32{7}},
		{[]uint32{5, 3}, []uint32{8, 2}, []uint32{4, 1}},
		{[]uint32{0, 1}, []uint32{1, prime - 1}, []uint32{half, half - 1}}, // half of -1 is half - 1
		{[]uint32{0, 0, 0, 0}, []uint32{0, 0, 0, 0}, []uint32{0, 0, 0, 0}},
		{[]uint32{4, 0, 0, 0}, []uint32{4, 4, 4, 4}, []uint32{1, 1, 1, 1}},
		{[]uint32{0, 4, 0, 0}, []uint32{4, 4*w - 3*prime, prime - 4, 4*prime - 4*w}, []uint32{1, prime - w, prime - 1, w}},
		{[]uint32{1, 2, 3, 4}, []uint32{10, 173167434, prime - 2, 825076915}, nil},
	} {
		expectTransform(t, x.l, false, x.forth)
		if x.back != nil {
			expectTransform(t, x.l, true, x.back)
		}
	}
}

// Example 1.
func TestP801TransformOfOneNumber(t *testing.T) {
	r := rand.New(rand.NewSource(10))
	for _, v := range append(thrown(r, 100), 0, 1, 2, prime-2, prime-1) {
		for _, back := range []bool{false, true} {
			expectTransform(t, []uint32{v}, back, []uint32{v})
		}
	}
}

func TestP801TransformBySums(t *testing.T) {
	t.Parallel()
	r := rand.New(rand.NewSource(11))
	for _, n := range lengths() {
		for _, l := range some(r, n) {
			for _, back := range []bool{false, true} {
				expectTransform(t, l, back, sums(l, back))
			}
		}
	}
}

func TestP801TransformAllSmall(t *testing.T) {
	t.Parallel()
	for _, n := range []int{1, 2, 4} {
		of([]uint32{0, 1, 2, prime - 1}, n, func(l []uint32) {
			for _, back := range []bool{false, true} {
				expectTransform(t, l, back, sums(l, back))
			}
		})
	}
	of([]uint32{0, 1}, 8, func(l []uint32) {
		expectTransform(t, l, false, sums(l, false))
		expectTransform(t, l, true, sums(l, true))
	})
}

// A single one at place j is sent to powers of w to the power j, so each number
// of a list is where it belongs, and each sum as well.
func TestP801TransformOfASingleOne(t *testing.T) {
	t.Parallel()
	for _, n := range lengths() {
		w := bigPower(3, (prime-1)/n)
		for j := range n {
			forth, back := make([]uint32, n), make([]uint32, n)
			turn, part := bigPower(w, j), bigPower(uint32(n), -1)
			forth[0], back[0] = 1, part
			for k := 1; k < n; k++ {
				forth[k] = mul(forth[k-1], turn)
				back[n-k] = mul(forth[k], part)
			}
			one := with(make([]uint32, n), j, 1)
			expectTransform(t, one, false, forth)
			expectTransform(t, one, true, back)
		}
	}
}

// P9: lengths are refused, not filled up or cut.
func TestP801TransformLengths(t *testing.T) {
	t.Parallel()
	longest := slices.Repeat([]uint32{1}, 1<<20+1)
	wrong := []int{1 << 11, 1 << 12, 1 << 13, 1 << 16, 1 << 20, 1<<20 + 1}
	for n := range 2100 {
		if !slices.Contains(lengths(), n) {
			wrong = append(wrong, n)
		}
	}
	for _, n := range wrong {
		expectNoTransform(t, longest[:n], api.ErrLong)
		expectNoTransform(t, make([]uint32, n), api.ErrLong)
	}
	expectNoTransform(t, nil, api.ErrLong)
	for _, n := range lengths() {
		if got := transform(t, longest[:n], false); len(got) != n || got[0] != uint32(n) {
			t.Errorf("%d numbers, of %d", len(got), n)
		}
	}
}

// P9: what is no remainder is refused at each place, not made one.
func TestP801TransformOfWhatIsNoRemainder(t *testing.T) {
	t.Parallel()
	r := rand.New(rand.NewSource(12))
	for _, n := range lengths() {
		l := thrown(r, n)
		for k := range n {
			for _, v := range none() {
				expectNoTransform(t, with(l, k, v), api.ErrArg)
			}
		}
		expectNoTransform(t, slices.Repeat([]uint32{prime}, n), api.ErrArg)
		expectNoTransform(t, slices.Repeat([]uint32{top}, n), api.ErrArg)
	}
}

// The greatest remainder is one.
func TestP801TransformOfTheGreatestRemainder(t *testing.T) {
	t.Parallel()
	for _, n := range lengths() {
		for k := 0; k < n; k += 1 + n/16 {
			l := with(make([]uint32, n), k, prime-1)
			expectTransform(t, l, false, sums(l, false))
			expectTransform(t, l, true, sums(l, true))
		}
	}
}

// P6: of both faults the length is named first.
func TestP801TransformOfBothFaults(t *testing.T) {
	t.Parallel()
	for _, n := range []int{3, 5, 6, 7, 12, 100, 1023, 1025, 2047, 2048, 4096} {
		for _, v := range none() {
			expectNoTransform(t, with(make([]uint32, n), 0, v), api.ErrLong)
			expectNoTransform(t, with(make([]uint32, n), n-1, v), api.ErrLong)
			expectNoTransform(t, slices.Repeat([]uint32{v}, n), api.ErrLong)
		}
	}
}
