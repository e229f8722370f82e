package ival_test

import (
	"math/rand"
	"slices"
	"testing"

	"anticline/api"
	"anticline/ival"
)

// wrong: what is no rational number, or not in lowest terms.
func wrong() []api.Rat {
	noughts := make([]uint32, 40)
	long := append(make([]uint32, 4000), 1)
	return []api.Rat{
		{}, {Neg: true}, {N: []uint32{1}}, {Neg: true, D: []uint32{1}}, {D: []uint32{2}},
		{N: []uint32{0}, D: []uint32{0}}, {N: []uint32{1}, D: noughts}, {N: noughts, D: []uint32{1}},
		{N: []uint32{3, 0}, D: []uint32{1, 0, 0}}, {Neg: true, N: []uint32{6}, D: []uint32{4}},
		{N: long, D: noughts}, {N: long, D: []uint32{3}}, {Neg: true, N: []uint32{3}, D: long}, {N: long, D: long},
	}
}

// patterns: floats of all kinds, those that are no number, too.
func patterns() []uint64 {
	l := append(ends(), inf, sign|inf, ^uint64(0), inf+1, sign|(inf+1), 0x7ff8000000000000)
	return append(l, nones()[:20]...)
}

// askAll makes all calls of two enclosures.
func askAll(i, j api.Ival) []any {
	q, e := ival.Quo(i, j)
	d, f := ival.Dot([]api.Ival{i, j, i}, []api.Ival{j, j, i})
	return []any{ival.Right(i), ival.Neg(i), ival.Add(i, j), ival.Sub(i, j), ival.Mul(i, j), q, e, d, f}
}

// P1: whatever is given, a call answers.
func TestP1NoCallPanics(t *testing.T) {
	all := patterns()
	r := rand.New(rand.NewSource(101))
	for _, a := range all {
		for _, b := range all {
			askAll(at(a, b), at(all[r.Intn(len(all))], all[r.Intn(len(all))]))
			askAll(at(r.Uint64(), a), at(b, r.Uint64()))
		}
		for _, v := range append(wrong(), fraction(1, 3)) {
			ival.Has(at(a, all[r.Intn(len(all))]), v)
			ival.Has(at(all[r.Intn(len(all))], a), v)
		}
	}
	for _, v := range wrong() {
		ival.Of(v)
	}
}

// P2: numbers that are handed in, their spare room too, stay as they were.
func TestP2NumbersStay(t *testing.T) {
	const gap = 4
	for _, a := range append(wrong(), fraction(-22, 7), fraction(0, 1), given(number(great)), given(number(1))) {
		memory := slices.Repeat([]uint32{0xdeadbeef}, len(a.N)+len(a.D)+3*gap)
		n := memory[gap : gap+len(a.N)]
		d := memory[len(a.N)+2*gap : len(a.N)+2*gap+len(a.D)]
		copy(n, a.N)
		copy(d, a.D)
		was := slices.Clone(memory)
		b := api.Rat{Neg: a.Neg, N: n, D: d}
		if ival.Of(b) != ival.Of(a) || ival.Has(at(sign|two, one), b) != ival.Has(at(sign|two, one), a) {
			t.Errorf("%v answers otherwise elsewhere", a)
		}
		if !slices.Equal(memory, was) {
			t.Errorf("%v is changed", a)
		}
	}
}

// P2: lists that are handed in to Dot, their spare room too, stay as they
// were, though they be one list.
func TestP2ListsStay(t *testing.T) {
	r := rand.New(rand.NewSource(102))
	memory := make([]api.Ival, 40)
	for k := range memory {
		memory[k] = thrown(r)
	}
	was := slices.Clone(memory)
	for range 200 {
		n := r.Intn(10)
		from, other := r.Intn(20), r.Intn(20)
		l, m := memory[from:from+n], memory[other:other+n]
		got, e := ival.Dot(l, m)
		again, f := ival.Dot(slices.Clone(l), slices.Clone(m))
		if got != again || e != f {
			t.Fatalf("Dot answers otherwise elsewhere: %x, %x", got, again)
		}
		ival.Dot(l, memory[other:other+n+1])
		if !slices.Equal(memory, was) {
			t.Fatal("Dot changes what is handed in")
		}
	}
}

// P3: the same calls answer the same, whatever was asked between.
func TestP3TheSameAgain(t *testing.T) {
	r := rand.New(rand.NewSource(103))
	for range 500 {
		i, j := thrown(r), thrown(r)
		first := askAll(i, j)
		askAll(j, at(inf, 0))
		ival.Has(j, fraction(1, 3))
		if !slices.Equal(askAll(i, j), first) {
			t.Fatalf("%x and %x answer otherwise again", i, j)
		}
	}
}

// P4: beside an error stands nothing.
func TestP4NothingBesideAnError(t *testing.T) {
	r := rand.New(rand.NewSource(104))
	seen := map[api.Errno]int{}
	for range 2000 {
		i, j := thrown(r), thrown(r)
		q, e := ival.Quo(i, j)
		d, f := ival.Dot([]api.Ival{i, j}, []api.Ival{j, i})
		s, g := ival.Dot([]api.Ival{i, j}, []api.Ival{i})
		for _, x := range []struct {
			i api.Ival
			e api.Errno
		}{{q, e}, {d, f}, {s, g}} {
			seen[x.e]++
			if x.e != api.OK && x.i != (api.Ival{}) {
				t.Fatalf("%x and %x: %x beside %v", i, j, x.i, x.e)
			}
		}
	}
	if len(seen) != 4 || seen[api.ErrZero] == 0 || seen[api.ErrRange] == 0 || seen[api.ErrLong] == 0 {
		t.Errorf("not all errors came: %v", seen)
	}
}
