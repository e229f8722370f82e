package ival_test

import (
	"math/rand"
	"slices"
	"testing"

	"anticline/api"
	"anticline/ival"
)

// points hold one number each.
func points(floats ...uint64) []api.Ival {
	var l []api.Ival
	for _, f := range floats {
		l = append(l, point(f))
	}
	return l
}

func expectDot(t *testing.T, l, m []api.Ival, want api.Ival, wantError api.Errno) {
	t.Helper()
	got, e := ival.Dot(l, m)
	if got != want || e != wantError {
		t.Errorf("Dot of %x and %x: %x, %v, not %x, %v", l, m, got, e, want, wantError)
	}
}

func TestP401DotOfNoneOrUnlikeMany(t *testing.T) {
	some := points(one, two, three)
	for _, x := range [][2][]api.Ival{
		{nil, nil}, {{}, nil}, {nil, {}}, {some[:0], some[:0]},
		{some[:1], nil}, {nil, some[:1]}, {some, some[:2]}, {some[:2], some},
		{points(great, great), points(great)}, {points(great), points(great, great)}, // ahead of ErrRange
	} {
		expectDot(t, x[0], x[1], api.Ival{}, api.ErrLong)
	}
}

func TestP401DotOfOne(t *testing.T) {
	expectDot(t, points(two), points(three), point(0x4018000000000000), api.OK)
	expectDot(t, points(great), points(one), point(great), api.OK)
	expectDot(t, []api.Ival{at(sign|one, two)}, []api.Ival{at(one, two)}, at(sign|two, four), api.OK)
	// a nought stays the one that it is, at both ends
	expectDot(t, points(0), points(0), point(0), api.OK)
	expectDot(t, points(0), points(sign), point(sign), api.OK)
	expectDot(t, points(sign), points(sign), point(0), api.OK)
}

func TestP401DotOfSome(t *testing.T) {
	expectDot(t, points(one, two), points(three, sign|one), point(one), api.OK)
	expectDot(t, points(one, one), points(one, sign|one), at(sign, 0), api.OK)
	expectDot(t, points(sign, 0, sign), points(one, sign|one, one), point(sign), api.OK)
	expectDot(t, []api.Ival{at(one, two), at(sign|one, one)}, []api.Ival{at(one, two), point(two)}, at(sign|one, 0x4018000000000000), api.OK)
	// from the first on: 1 and the least round at once, and that stays
	expectDot(t, points(one, 1, sign|one), points(one, one, one), at(sign, 0x3cb0000000000000), api.OK)
	expectDot(t, points(one, sign|one, 1), points(one, one, one), point(1), api.OK)
	expectDot(t, points(1, one, sign|one), points(one, one, one), at(sign, 0x3cb0000000000000), api.OK)
}

func TestP401DotBeyondTheGreatest(t *testing.T) {
	for _, x := range [][2][]api.Ival{
		{points(great), points(great)},
		{points(great), points(sign | great)},
		{points(great, one), points(two, one)},
		{points(great, one, two), points(sign|two, one, two)},
		{points(one, great), points(one, two)},
		{points(one, one, sign|great), points(one, one, two)},
		{points(one, great, great), points(one, two, sign|two)},
		{points(great, great), points(one, one)},
		{points(great, great, sign|great), points(one, one, one)},
		{points(sign|great, great, one), points(one, sign|one, one)},
		{points(one, great, 1), points(one, one, one)},
		{points(0x7fe0000000000000, great), points(one, half)}, // up, but not down
		{{at(sign|great, one)}, {at(one, two)}},
		{{at(one, great)}, {at(one, two)}},
		{{point(one), at(one, great)}, {point(one), at(one, two)}},
		{{point(one), at(sign|great, one)}, {point(one), at(one, two)}},
		{{at(one, great), at(one, great)}, points(one, one)},
		{{at(sign|great, one), at(sign|great, one)}, points(one, one)},
	} {
		expectDot(t, x[0], x[1], api.Ival{}, api.ErrRange)
	}
}

func TestP401DotUpToTheGreatest(t *testing.T) {
	expectDot(t, points(great, great), points(one, sign|one), at(sign, 0), api.OK)
	expectDot(t, points(great, sign|great, great), points(one, one, one), point(great), api.OK)
	expectDot(t, points(0x7fd0000000000000, great), points(one, half), at(0x7fe7ffffffffffff, 0x7fe8000000000000), api.OK)
}

// byWords adds product after product, as the promise says it, by the words of
// Add and Mul.
func byWords(l, m []api.Ival) (api.Ival, api.Errno) {
	infinite := func(i api.Ival) bool { return i.Lo&^sign == inf || i.Hi&^sign == inf }
	var sum api.Ival
	for k := range l {
		product := overAll(times, l[k], m[k])
		if infinite(product) {
			return api.Ival{}, api.ErrRange
		}
		if k == 0 {
			sum = product
		} else {
			sum = exactSum(sum, product)
		}
		if infinite(sum) {
			return api.Ival{}, api.ErrRange
		}
	}
	return sum, api.OK
}

func TestP401DotAgainstTheWords(t *testing.T) {
	r := rand.New(rand.NewSource(44))
	answers := map[api.Errno]int{}
	for range 3000 {
		var l, m []api.Ival
		for range 1 + r.Intn(6) {
			i, j := thrown(r), thrown(r)
			if r.Intn(3) > 0 { // sizes whose products stay within bounds
				i, j = ival.Mul(i, point(0x2ff0000000000000)), ival.Mul(j, point(0x2ff0000000000000))
			}
			l, m = append(l, i), append(m, j)
		}
		want, wantError := byWords(l, m)
		answers[wantError]++
		expectDot(t, l, m, want, wantError)
	}
	if answers[api.OK] < 300 || answers[api.ErrRange] < 300 {
		t.Errorf("the sums that were thrown are of one kind: %v", answers)
	}
}

func TestP401DotOfMany(t *testing.T) {
	const n = 20000
	l, m := slices.Repeat(points(one), n), slices.Repeat(points(two), n)
	expectDot(t, l, m, ival.Of(fraction(2*n, 1)), api.OK)
	m[n-1] = point(great)
	l[n-1] = point(two)
	expectDot(t, l, m, api.Ival{}, api.ErrRange)
}
