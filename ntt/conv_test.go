package ntt_test

import (
	"math/rand"
	"slices"
	"testing"

	"anticline/api"
)

// expectBothWays asks either way about.
func expectBothWays(t *testing.T, a, b, want []uint32) {
	t.Helper()
	expectConv(t, a, b, want)
	expectConv(t, b, a, want)
}

func TestP801ConvByHand(t *testing.T) {
	for _, x := range []struct{ a, b, want []uint32 }{
		{[]uint32{6}, []uint32{7}, []uint32{42}},
		{[]uint32{0}, []uint32{0}, []uint32{0}},
		{[]uint32{prime - 1}, []uint32{prime - 1}, []uint32{1}},
		{[]uint32{1, 2}, []uint32{3, 4}, []uint32{3, 10, 8}},
		{[]uint32{1, prime - 1}, []uint32{1, 1}, []uint32{1, 0, prime - 1}},
		{[]uint32{0, 0, 5}, []uint32{0, 7}, []uint32{0, 0, 0, 35}},
		{[]uint32{1, 2, 0, 0}, []uint32{3, 0}, []uint32{3, 6, 0, 0, 0}},
		{[]uint32{1, 1, 1, 1}, []uint32{1, 1, 1}, []uint32{1, 2, 3, 3, 2, 1}},
		{[]uint32{1 << 15}, []uint32{1 << 15, 2}, []uint32{75497471, 1 << 16}},
	} {
		expectBothWays(t, x.a, x.b, x.want)
	}
}

func TestP801ConvOfOneNumberEach(t *testing.T) {
	t.Parallel()
	r := rand.New(rand.NewSource(20))
	few := append(thrown(r, 40), 0, 1, 2, prime/2, prime-2, prime-1)
	for _, a := range few {
		for _, b := range few {
			expectConv(t, []uint32{a}, []uint32{b}, []uint32{mul(a, b)})
		}
	}
}

func TestP801ConvAllSmall(t *testing.T) {
	t.Parallel()
	few := []uint32{0, 1, prime - 1}
	for m := 1; m <= 3; m++ {
		for n := 1; n <= 3; n++ {
			of(few, m, func(a []uint32) {
				of(few, n, func(b []uint32) { expectConv(t, a, b, product(a, b)) })
			})
		}
	}
}

func TestP801ConvOfShortLists(t *testing.T) {
	t.Parallel()
	r := rand.New(rand.NewSource(21))
	for m := 1; m <= 36; m++ {
		for n := 1; n <= 36; n++ {
			a, b := some(r, m), some(r, n)
			for k := range a {
				l := b[r.Intn(len(b))]
				expectConv(t, a[k], l, product(a[k], l))
			}
		}
	}
}

// As many together as there may be, and each number below that.
func TestP801ConvOfEachLength(t *testing.T) {
	t.Parallel()
	r := rand.New(rand.NewSource(22))
	for both := 2; both <= maxBoth; both++ {
		for _, m := range []int{1, both / 2, 1 + r.Intn(both-1)} {
			a, b := thrown(r, m), thrown(r, both-m)
			expectBothWays(t, a, b, product(a, b))
		}
	}
	for m := 1; m <= maxPoints; m += 31 {
		for _, a := range some(r, m) {
			for _, b := range [][]uint32{thrown(r, maxBoth-m), slices.Repeat([]uint32{prime - 1}, maxBoth-m)} {
				expectConv(t, a, b, product(a, b))
			}
		}
	}
}

// Noughts behind the highest coefficient are answered, too.
func TestP801ConvAnswersOneLessThanBoth(t *testing.T) {
	t.Parallel()
	for m := 1; m <= maxPoints; m++ {
		for _, n := range []int{1, maxBoth - m} {
			one, nought := with(make([]uint32, m), 0, 1), make([]uint32, n)
			expectBothWays(t, one, nought, make([]uint32, m+n-1))
			expectBothWays(t, one, with(nought, 0, 9), with(make([]uint32, m+n-1), 0, 9))
		}
	}
}

// A single one moves all coefficients up.
func TestP801ConvWithASingleOne(t *testing.T) {
	t.Parallel()
	r := rand.New(rand.NewSource(23))
	for m := 1; m <= maxPoints; m += 1 + m/5 {
		a := thrown(r, m)
		for up := 0; up < maxBoth-m; up += 1 + up/3 {
			one := with(make([]uint32, up+1), up, 1)
			expectBothWays(t, a, one, slices.Concat(make([]uint32, up), a))
		}
	}
}

// P9: too many are refused, not cut.
func TestP801ConvLengths(t *testing.T) {
	t.Parallel()
	long := slices.Repeat([]uint32{1}, 1<<20)
	expectNoConv(t, nil, nil, api.ErrLong)
	expectNoConv(t, []uint32{}, nil, api.ErrLong)
	for m := 1; m <= 1100; m++ {
		expectNoConv(t, nil, long[:m], api.ErrLong)
		expectNoConv(t, []uint32{}, long[:m], api.ErrLong)
		for _, more := range []int{1, 2, 3, 500, 1023, 1024, 1025} {
			if n := maxBoth - m + more; n >= 1 {
				expectNoConv(t, long[:m], long[:n], api.ErrLong)
			}
		}
		if n := maxBoth - m; n >= 1 {
			if got := conv(t, long[:m], long[:n]); len(got) != maxPoints {
				t.Fatalf("%d numbers, of %d and %d", len(got), m, n)
			}
		}
	}
	for _, n := range []int{1, 2, 1024, 1025, 1 << 20} {
		expectNoConv(t, long, long[:n], api.ErrLong)
	}
	expectNoConv(t, long, nil, api.ErrLong)
}

// P9: what is no remainder is refused at each place of either list.
func TestP801ConvOfWhatIsNoRemainder(t *testing.T) {
	t.Parallel()
	r := rand.New(rand.NewSource(24))
	for _, x := range [][2]int{{1, 1}, {1, 2}, {2, 2}, {3, 5}, {8, 8}, {1, 1024}, {512, 513}, {1000, 25}} {
		a, b := thrown(r, x[0]), thrown(r, x[1])
		for k := range a {
			expectNoConv(t, with(a, k, none()[k%len(none())]), b, api.ErrArg)
		}
		for k := range b {
			expectNoConv(t, a, with(b, k, none()[k%len(none())]), api.ErrArg)
		}
		for _, v := range none() {
			expectNoConv(t, with(a, r.Intn(len(a)), v), b, api.ErrArg)
			expectNoConv(t, a, with(b, r.Intn(len(b)), v), api.ErrArg)
			expectNoConv(t, with(a, 0, v), with(b, 0, v), api.ErrArg)
			expectNoConv(t, make([]uint32, len(a)), with(make([]uint32, len(b)), len(b)-1, v), api.ErrArg)
		}
	}
}

// P6: of both faults the length is named first, whichever list has which.
func TestP801ConvOfBothFaults(t *testing.T) {
	t.Parallel()
	for _, v := range none() {
		for _, n := range []int{1, 2, 3, 1024, 1025, 4096} {
			bad := with(make([]uint32, n), n-1, v)
			expectNoConv(t, bad, nil, api.ErrLong)
			expectNoConv(t, bad, make([]uint32, 1026-min(n, 1025)), api.ErrLong)
			expectNoConv(t, bad, slices.Repeat([]uint32{v}, 1026), api.ErrLong)
		}
	}
}
