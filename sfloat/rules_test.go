package sfloat_test

import (
	"math/big"
	"math/rand"
	"slices"
	"testing"

	"anticline/api"
	"anticline/sfloat"
)

// wrong: what is no rational number, or not in lowest terms.
func wrong() []api.Rat {
	noughts := make([]uint32, 300)
	high := append(make([]uint32, 200), 1)
	return []api.Rat{
		{}, {Neg: true}, {N: []uint32{1}}, {Neg: true, N: []uint32{1}},
		{Neg: true, D: []uint32{1}}, {D: []uint32{2}}, {N: []uint32{0}, D: []uint32{0}},
		{N: []uint32{0}, D: []uint32{1}}, {N: []uint32{1}, D: []uint32{0, 0}},
		{N: []uint32{3, 0}, D: []uint32{1, 0, 0}}, {N: []uint32{6}, D: []uint32{4}},
		{N: noughts, D: noughts}, {Neg: true, N: noughts, D: high}, {N: high, D: noughts},
		{N: append(slices.Clone(high), 0, 0), D: append(slices.Clone(high), 0)},
		{N: append(make([]uint32, 40000), 1), D: []uint32{1}},
		{N: []uint32{1}, D: append(make([]uint32, 40000), 1)},
		{N: append(make([]uint32, 40000), 5), D: append(make([]uint32, 40000), 3)},
	}
}

// right: numbers that are.
func right() []api.Rat {
	r := rand.New(rand.NewSource(1))
	l := []api.Rat{{D: []uint32{1}}, {N: []uint32{}, D: []uint32{1}}}
	for _, f := range finite() {
		if f != sign {
			l = append(l, fromBig(bigOf(f)))
		}
	}
	for range 40 {
		l = append(l, fromBig(new(big.Rat).SetFrac(bitsOf(r, 1+r.Intn(3000)), bitsOf(r, 1+r.Intn(3000)))))
	}
	return l
}

// P1: whatever is given, a call answers.
func TestP1NoCallPanics(t *testing.T) {
	r := rand.New(rand.NewSource(101))
	for _, a := range append(wrong(), right()...) {
		for _, mode := range modes() {
			sfloat.Of(a, mode)
		}
	}
	ends := append(append(finite(), nones()...), inf, sign|inf, ^uint64(0))
	for range 40000 {
		a, b, c := ends[r.Intn(len(ends))], r.Uint64(), ends[r.Intn(len(ends))]
		mode := modes()[r.Intn(len(modes()))]
		for _, call := range calls() {
			call(a, b, c, mode)
			call(b, a, c, mode)
			call(c, a, b, mode)
		}
		sfloat.Rat(b)
		sfloat.Cmp(a, b)
		sfloat.Next(b, true)
		sfloat.Next(b, false)
	}
}

// P2: what is handed in to Of, its spare room too, stays as it was.
func TestP2OfChangesNothing(t *testing.T) {
	const gap = 8
	for _, a := range append(wrong(), right()...) {
		memory := slices.Repeat([]uint32{0xdeadbeef}, len(a.N)+len(a.D)+3*gap)
		n := memory[gap : gap+len(a.N)]
		d := memory[len(a.N)+2*gap : len(a.N)+2*gap+len(a.D)]
		copy(n, a.N)
		copy(d, a.D)
		was := slices.Clone(memory)
		for _, mode := range modes() {
			first := told(sfloat.Of(api.Rat{Neg: a.Neg, N: n, D: d}, mode))
			if !slices.Equal(memory, was) {
				t.Fatalf("Of changes what is handed in: %v", a)
			}
			expect(t, "the same elsewhere", mode, told(sfloat.Of(a, mode)), first)
		}
	}
}

// P2: terms that lie in one memory are no hindrance.
func TestP2TermsThatOverlap(t *testing.T) {
	memory := []uint32{5, 7, 1, 9, 11, 3}
	was := slices.Clone(memory)
	a := api.Rat{N: memory[:4], D: memory[2:]}
	apart := api.Rat{N: slices.Clone(a.N), D: slices.Clone(a.D)}
	for _, mode := range modes() {
		expect(t, "overlapping", mode, told(sfloat.Of(a, mode)), told(sfloat.Of(apart, mode)))
	}
	if !slices.Equal(memory, was) {
		t.Error("Of changes what is handed in")
	}
}

// spoil writes over a list and its spare room.
func spoil(l []uint32) {
	l = l[:cap(l)]
	for i := range l {
		l[i] ^= 0x5a5a5a5a
	}
}

// P2, P3, P7: Rat's two lists are apart from each other and from every other
// answer, and nothing of them is kept.
func TestP2RatAnswersNewMemory(t *testing.T) {
	for _, f := range finite() {
		first, _ := sfloat.Rat(f)
		want := toBig(first)
		d := slices.Clone(first.D[:cap(first.D)])
		spoil(first.N)
		if !slices.Equal(d, first.D[:cap(first.D)]) {
			t.Fatalf("Rat of %x: both lists lie in one memory", f)
		}
		spoil(first.D)
		if again, _ := sfloat.Rat(f); toBig(again).Cmp(want) != 0 {
			t.Fatalf("Rat of %x keeps what it answered", f)
		}
	}
}

// P3: the same calls answer the same, whatever was asked between.
func TestP3TheSameAgain(t *testing.T) {
	r := rand.New(rand.NewSource(103))
	for range 300 {
		a, b, c := thrown(r), thrown(r), thrown(r)
		for _, mode := range modes() {
			for name, call := range calls() {
				first := call(a, b, c, mode)
				call(none, c, a, mode+1)
				call(b, inf, c, mode+2)
				expect(t, name, mode, call(a, b, c, mode), first)
			}
		}
	}
}

// P4: Cmp that says false says nothing else.
func TestP4CmpOfNoNumber(t *testing.T) {
	for _, x := range nones() {
		for _, f := range []uint64{0, one, sign | one, inf, sign | inf, x} {
			for _, pair := range [][2]uint64{{x, f}, {f, x}} {
				if order, is := sfloat.Cmp(pair[0], pair[1]); order != 0 || is {
					t.Errorf("Cmp(%x, %x): %d, %v", pair[0], pair[1], order, is)
				}
			}
		}
	}
}
