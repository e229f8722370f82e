package ival_test

import (
	"math/big"
	"math/rand"
	"testing"

	"anticline/api"
	"anticline/ival"
)

// exactSum says what Add says: each end rounded once, to its side.
func exactSum(i, j api.Ival) api.Ival {
	return at(sumOf(i.Lo, j.Lo, sign).Lo, sumOf(i.Hi, j.Hi, 0).Hi)
}

// sumOf encloses a sum; where it is nought, and both are not the same nought,
// both ends are the nought that is told.
func sumOf(a, b, nought uint64) api.Ival {
	v := new(big.Rat).Add(number(a), number(b))
	switch {
	case v.Sign() != 0:
		return outward(v)
	case a == b:
		return point(a)
	}
	return point(nought)
}

// overAll says what Mul and Quo say: of four results, in the chapter's order,
// the least one rounded down and the greatest one rounded up.
func overAll(do func(a, b *big.Rat) *big.Rat, i, j api.Ival) api.Ival {
	var got api.Ival
	for k, pair := range [][2]uint64{{i.Lo, j.Lo}, {i.Lo, j.Hi}, {i.Hi, j.Lo}, {i.Hi, j.Hi}} {
		x := point((pair[0] ^ pair[1]) & sign)
		if v := do(number(pair[0]), number(pair[1])); v.Sign() != 0 {
			x = outward(v)
		}
		if k == 0 || less(x.Lo, got.Lo) {
			got.Lo = x.Lo
		}
		if k == 0 || less(got.Hi, x.Hi) {
			got.Hi = x.Hi
		}
	}
	return got
}

// less sets numbers against each other, noughts the same, by whole numbers in
// whose order floats lie.
func less(a, b uint64) bool {
	place := func(f uint64) int64 {
		if f >= sign {
			return -int64(f - sign)
		}
		return int64(f)
	}
	return place(a) < place(b)
}

func times(a, b *big.Rat) *big.Rat { return new(big.Rat).Mul(a, b) }
func over(a, b *big.Rat) *big.Rat  { return new(big.Rat).Quo(a, b) }

// hasNought: by the bits alone, as ends with one sign have none between.
func hasNought(j api.Ival) bool {
	return j.Lo&^sign == 0 || j.Hi&^sign == 0 || j.Lo&sign != j.Hi&sign
}

// compare asks all four of a pair.
func compare(t *testing.T, i, j api.Ival) {
	t.Helper()
	expect(t, "Add", i, j, ival.Add(i, j), exactSum(i, j))
	expect(t, "Sub", i, j, ival.Sub(i, j), exactSum(i, negative(j)))
	expect(t, "Mul", i, j, ival.Mul(i, j), overAll(times, i, j))
	q, e := ival.Quo(i, j)
	if hasNought(j) {
		expectError(t, "Quo by nought", q, e, api.ErrZero)
		return
	}
	expectError(t, "Quo", q, e, api.OK)
	expect(t, "Quo", i, j, q, overAll(over, i, j))
}

func TestP401OpsAgainstTheWords(t *testing.T) {
	all := enclosures()
	r := rand.New(rand.NewSource(42))
	for _, i := range all {
		for range 25 {
			compare(t, i, all[r.Intn(len(all))])
		}
	}
}

func TestP401OpsOfThrown(t *testing.T) {
	r := rand.New(rand.NewSource(43))
	for range 15000 {
		compare(t, thrown(r), thrown(r))
	}
}

func TestP401OpsAboutNought(t *testing.T) {
	var all []api.Ival
	near := []uint64{sign | two, sign | 1, sign, 0, 1, two}
	for k, lo := range near {
		for _, hi := range near[k:] {
			all = append(all, at(lo, hi))
		}
	}
	all = append(all, at(0, sign))
	for _, i := range all {
		for _, j := range all {
			compare(t, i, j)
		}
	}
}

func TestP401AddAndSub(t *testing.T) {
	third := at(0x3fd5555555555555, 0x3fd5555555555556)
	for _, x := range []struct{ i, j, sum, difference api.Ival }{
		{at(one, two), at(two, three), at(three, 0x4014000000000000), at(sign|two, 0)},
		{point(one), point(1), at(one, one+1), at(one-1, one)},
		{point(sign | one), point(1), at(sign|one, sign|(one-1)), at(sign|(one+1), sign|one)},
		{point(one), point(one), point(two), at(sign, 0)},
		{point(one), point(sign | one), at(sign, 0), point(two)},
		{point(0), point(0), point(0), at(sign, 0)},
		{point(sign), point(sign), point(sign), at(sign, 0)},
		{point(0), point(sign), at(sign, 0), point(0)},
		{point(sign), point(0), at(sign, 0), point(sign)},
		{at(sign, 0), at(sign, 0), at(sign, 0), at(sign, 0)},
		{third, third, at(0x3fe5555555555555, 0x3fe5555555555556), at(0xbc90000000000000, 0x3c90000000000000)},
		{point(great), point(great), at(great, inf), at(sign, 0)},
		{point(sign | great), point(great), at(sign, 0), at(sign|inf, sign|great)},
		{point(great), point(1), at(great, inf), at(great-1, great)},
	} {
		expect(t, "Add", x.i, x.j, ival.Add(x.i, x.j), x.sum)
		expect(t, "Sub", x.i, x.j, ival.Sub(x.i, x.j), x.difference)
	}
}

func TestP401MulBySigns(t *testing.T) {
	for _, x := range []struct{ i, j, want api.Ival }{
		{at(one, two), at(one, two), at(one, four)},
		{at(sign|two, sign|one), at(one, two), at(sign|four, sign|one)},
		{at(one, two), at(sign|two, sign|one), at(sign|four, sign|one)},
		{at(sign|two, sign|one), at(sign|two, sign|one), at(one, four)},
		{at(sign|one, two), at(one, two), at(sign|two, four)},
		{at(sign|one, two), at(sign|two, sign|one), at(sign|four, two)},
		{at(sign|one, two), at(sign|one, two), at(sign|two, four)},
		{at(sign|two, one), at(sign|two, one), at(sign|two, four)},
		{at(0, two), at(one, two), at(0, four)},
		{at(one, two), at(sign|two, 0), at(sign|four, 0)},
	} {
		expect(t, "Mul", x.i, x.j, ival.Mul(x.i, x.j), x.want)
	}
}

func TestP401QuoBySigns(t *testing.T) {
	third := at(0x3fd5555555555555, 0x3fd5555555555556)
	for _, x := range []struct{ i, j, want api.Ival }{
		{at(one, two), at(one, two), at(half, two)},
		{at(sign|two, sign|one), at(one, two), at(sign|two, sign|half)},
		{at(one, two), at(sign|two, sign|one), at(sign|two, sign|half)},
		{at(sign|two, sign|one), at(sign|two, sign|one), at(half, two)},
		{at(sign|one, two), at(one, two), at(sign|one, two)},
		{at(sign|one, two), at(sign|two, sign|one), at(sign|two, one)},
		{point(one), point(three), third},
		{point(sign | one), point(three), negative(third)},
		{at(one, three), at(one, three), at(third.Lo, three)},
		{point(one), point(1), at(great, inf)},
		{point(one), point(sign | 1), at(sign|inf, sign|great)},
		{point(1), point(two), at(0, 1)},
	} {
		expect(t, "Quo", x.i, x.j, quo(t, x.i, x.j), x.want)
	}
}

// Of noughts the first one, in the order Lo Lo, Lo Hi, Hi Lo, Hi Hi.
func TestP401MulOfNoughts(t *testing.T) {
	for _, x := range []struct{ i, j, want api.Ival }{
		{point(0), point(0), point(0)}, {point(sign), point(sign), point(0)},
		{point(0), point(sign), point(sign)}, {point(sign), point(0), point(sign)},
		{at(sign, 0), point(one), point(sign)}, {at(0, sign), point(one), point(0)},
		{point(one), at(sign, 0), point(sign)}, {point(one), at(0, sign), point(0)},
		{point(0), at(sign|one, one), point(sign)}, {point(sign), at(sign|one, one), point(0)},
		{at(sign|one, one), point(0), point(sign)}, {at(sign|one, one), point(sign), point(0)},
		{at(sign|one, 0), at(0, one), at(sign|one, sign)}, // -0, -1, 0, 0
		{at(sign|one, 0), at(sign, one), at(sign|one, 0)}, // 0, -1, -0, 0
		{at(0, one), at(sign|one, 0), at(sign|one, sign)}, // -0, 0, -1, 0
		{at(0, one), at(sign|one, sign), at(sign|one, sign)},
		{at(sign, one), at(sign|one, sign), at(sign|one, 0)},
		{at(0, one), at(0, one), at(0, one)}, {at(sign, one), at(0, one), at(sign, one)},
		{at(0, one), at(sign, one), at(sign, one)}, // -0, 0, -0, 1
		{at(sign, one), at(sign, one), at(0, one)}, // 0, -0, -0, 1
		{at(sign|one, 0), at(sign|one, 0), at(sign, one)},
		{at(sign|1, 0), point(1), at(sign|1, sign)}, // what rounds to a nought counts as one
		{at(0, 1), point(sign | 1), at(sign|1, sign)},
		{at(sign, 1), point(1), at(sign, 1)},
		{at(sign|1, 1), point(1), at(sign|1, 1)},
	} {
		expect(t, "Mul", x.i, x.j, ival.Mul(x.i, x.j), x.want)
	}
}

func TestP401QuoOfNoughts(t *testing.T) {
	for _, x := range []struct{ i, j, want api.Ival }{
		{point(0), point(one), point(0)}, {point(0), point(sign | one), point(sign)},
		{point(sign), point(one), point(sign)}, {point(sign), at(sign|two, sign|one), point(0)},
		{at(sign, 0), at(one, two), point(sign)}, {at(0, sign), at(one, two), point(0)},
		{at(sign, 0), at(sign|two, sign|one), point(0)}, {at(0, sign), at(sign|two, sign|one), point(sign)},
		{at(0, two), at(one, two), at(0, two)}, {at(sign, two), at(one, two), at(sign, two)},
		{at(sign|two, 0), at(one, two), at(sign|two, 0)}, {at(sign|two, sign), at(one, two), at(sign|two, sign)},
		{at(sign|1, 0), point(two), at(sign|1, sign)},
		{at(sign, 1), point(two), at(sign, 1)},
	} {
		expect(t, "Quo", x.i, x.j, quo(t, x.i, x.j), x.want)
	}
}

func TestP401MulBeyondTheGreatest(t *testing.T) {
	for _, x := range []struct{ i, j, want api.Ival }{
		{point(great), point(great), at(great, inf)},
		{point(sign | great), point(great), at(sign|inf, sign|great)},
		{at(sign|great, great), point(great), at(sign|inf, inf)},
		{at(one, great), at(one, two), at(one, inf)},
		{at(sign|great, sign|one), at(one, two), at(sign|inf, sign|one)},
		{at(0, great), point(two), at(0, inf)},
		{point(great), point(one), point(great)},
	} {
		expect(t, "Mul", x.i, x.j, ival.Mul(x.i, x.j), x.want)
	}
}

func TestP401QuoByNought(t *testing.T) {
	for _, j := range []api.Ival{
		at(0, 0), at(sign, sign), at(0, sign), at(sign, 0), at(sign|one, one), at(sign|1, 1), at(sign|great, great),
		at(0, one), at(sign, one), at(sign|one, 0), at(sign|one, sign), at(0, 1), at(sign|1, sign),
	} {
		for _, i := range []api.Ival{at(one, two), at(sign|two, sign|one), at(sign|one, one), at(0, 0)} {
			q, e := ival.Quo(i, j)
			expectError(t, "Quo by nought", q, e, api.ErrZero)
		}
	}
}
