package gen_test

import (
	"math"
	"math/rand"
	"slices"
	"testing"

	"anticline/api"
	"anticline/gen"
)

// answers is what the calls tell of two Gens.
type answers struct {
	check  api.Errno
	same   bool
	entry  api.Rat
	matrix [][]api.Rat
}

func ask(g, other api.Gen, i, j int) answers {
	return answers{gen.Check(g), gen.Same(g, other), gen.Entry(g, i, j), gen.Expand(g)}
}

func (x answers) like(y answers) bool {
	return x.check == y.check && x.same == y.same && equal(x.entry, y.entry) && equalMatrix(x.matrix, y.matrix)
}

// strange: Gens that Check refuses, for all reasons.
func strange() []api.Gen {
	r := rand.New(rand.NewSource(80))
	numbers := append(append(wrong(), tooLong()...), longest()...)
	sizes := []int{math.MinInt, -1 << 32, -2, -1, 0, 1, 2, 3, 4, 7, 8, 9, 1 << 32, math.MaxInt}
	l := []api.Gen{{}, {A: numbers, B: numbers, G: numbers, H: numbers}}
	for kind := -1; kind <= 9; kind++ {
		for _, n := range sizes {
			l = append(l, api.Gen{Kind: kind, N: n}, api.Gen{Kind: kind, N: n, R: sizes[r.Intn(len(sizes))], A: numbers[:r.Intn(len(numbers))], G: numbers})
		}
	}
	for _, g := range allowed(80) {
		for place := range rowNames {
			less, more := copied(g), copied(g)
			*row(&less, place) = nil
			*row(&more, place) = append(*row(&more, place), numbers...)
			l = append(l, less, more)
		}
		put(g, numbers[r.Intn(len(numbers))], func(g api.Gen) { l = append(l, g) })
		if len(g.A) == len(g.B) && len(g.A) > 0 {
			l = append(l, changed(g, 0, r.Intn(g.N), g.B[r.Intn(g.N)]))
		}
	}
	return l
}

// P1: whatever is given, a call answers.
func TestP1NoCallPanics(t *testing.T) {
	places := []int{math.MinInt, -9, -1, 0, 1, 2, 7, 8, 15, math.MaxInt}
	all := append(strange(), allowed(81)...)
	for k, g := range all {
		gen.Check(g)
		gen.Expand(g)
		gen.Same(g, all[len(all)-1-k])
		for _, i := range places {
			for _, j := range places {
				gen.Entry(g, i, j)
			}
		}
	}
}

// P1: what Check refuses ends soon, too, though it be as long as may be.
func TestP1LongNumbersOfRefusedGens(t *testing.T) {
	r := rand.New(rand.NewSource(82))
	l := make([]api.Rat, 24)
	for k := range l {
		n, d := make([]uint32, 4000), make([]uint32, 4000)
		for i := range n {
			n[i], d[i] = r.Uint32()|1, r.Uint32()|1
		}
		l[k] = api.Rat{N: n, D: d}
	}
	for _, g := range []api.Gen{
		{Kind: api.Vand, N: 8, A: l[:8]}, {Kind: api.Cauchy, N: 8, A: l[:8], B: l[8:16]},
		{Kind: api.ToepGen, N: 8, R: 3, G: l, H: l}, {Kind: api.CauGen, N: 8, R: 3, A: l[:8], B: l[8:16], G: l, H: l},
	} {
		expectCheck(t, g, api.ErrArg)
		ask(g, copied(g), 7, 7)
	}
}

const (
	gap  = 4
	mark = 0xdeadbeef
)

// laid puts a Gen's numbers and rows into two memories, with room in front of
// each list and behind it.
func laid(g api.Gen) (api.Gen, *memory) {
	m := &memory{}
	for place := range rowNames {
		for _, a := range *row(&g, place) {
			m.limbs = append(append(append(m.limbs, gapOf(uint32(mark))...), a.N...), gapOf(uint32(mark))...)
			m.limbs = append(append(m.limbs, a.D...), gapOf(uint32(mark))...)
		}
		m.rats = append(append(append(m.rats, gapOf(api.Rat{Neg: true})...), *row(&g, place)...), gapOf(api.Rat{Neg: true})...)
	}
	limb, rat := 0, 0
	list := func(n int) []uint32 {
		limb += gap
		l := m.limbs[limb : limb+n]
		limb += n
		return l
	}
	for place := range rowNames {
		rat += gap
		n := len(*row(&g, place))
		l := m.rats[rat : rat+n]
		rat += n + gap
		for k, a := range l {
			l[k] = api.Rat{Neg: a.Neg, N: list(len(a.N)), D: list(len(a.D))}
			limb += gap
		}
		*row(&g, place) = l
	}
	m.limbsWere, m.ratsWere = slices.Clone(m.limbs), slices.Clone(m.rats)
	return g, m
}

func gapOf[T any](v T) []T {
	return slices.Repeat([]T{v}, gap)
}

type memory struct {
	limbs, limbsWere []uint32
	rats, ratsWere   []api.Rat
}

// stayed tells by the lists themselves, not by what they hold alone: a number
// that gives way to an equal one is a change, too.
func (m *memory) stayed() bool {
	return slices.Equal(m.limbs, m.limbsWere) && slices.EqualFunc(m.rats, m.ratsWere, func(a, b api.Rat) bool {
		return a.Neg == b.Neg && sameList(a.N, b.N) && sameList(a.D, b.D)
	})
}

func sameList(a, b []uint32) bool {
	return len(a) == len(b) && cap(a) == cap(b) && (cap(a) == 0 || &a[:1][0] == &b[:1][0])
}

// apart writes over all lists of the answers, their spare room too, and tells
// whether one of them was in another.
func (x answers) apart() bool {
	numbers := []api.Rat{x.entry}
	rows := slices.Clone(x.matrix[:cap(x.matrix)])
	for _, row := range rows {
		numbers = append(numbers, row...)
	}
	var lists [][]uint32
	for _, a := range numbers {
		lists = append(lists, a.N[:cap(a.N)], a.D[:cap(a.D)])
	}
	return filledApart(lists, func(k int) uint32 { return uint32(k) }, func(a, b uint32) bool { return a == b }) &&
		filledApart(rows, func(k int) api.Rat { return api.Rat{N: []uint32{uint32(k)}} }, equal)
}

// filledApart fills each list with something of its own, and asks whether
// each still holds it when all are filled.
func filledApart[T any](lists [][]T, own func(k int) T, alike func(a, b T) bool) bool {
	for k, l := range lists {
		l = l[:cap(l)]
		for i := range l {
			l[i] = own(k)
		}
	}
	for k, l := range lists {
		for _, v := range l[:cap(l)] {
			if !alike(v, own(k)) {
				return false
			}
		}
	}
	return true
}

// P2: what is handed in, its spare room too, stays as it was, and no answer
// lies in it; no two lists of an answer share memory.
func TestP2Memory(t *testing.T) {
	all := append(allowed(83), allowed(84)...)
	for k, g := range append(all, strange()...) {
		for _, other := range []api.Gen{g, all[k%len(all)]} {
			inG, memoryG := laid(g)
			inOther, memoryOther := laid(other)
			i, j := 0, 0
			if g.N > 0 {
				i, j = k%g.N, k/2%g.N
			}
			got := ask(inG, inOther, i, j)
			if !memoryG.stayed() || !memoryOther.stayed() {
				t.Fatalf("%+v and %+v: what was handed in is changed", g, other)
			}
			if !got.apart() {
				t.Fatalf("%+v: two lists of an answer share memory", g)
			}
			if !memoryG.stayed() || !memoryOther.stayed() {
				t.Fatalf("%+v: an answer lies in what was handed in", g)
			}
		}
	}
}

// P2: one list for all numbers, one row for all rows, are no hindrance.
func TestP2ListsHandedInThatOverlap(t *testing.T) {
	limbs := []uint32{7, 7, 7, 7, 9}
	a := api.Rat{N: limbs[:1], D: limbs[4:]}
	b := api.Rat{Neg: true, N: limbs[:2], D: limbs[4:]}
	numbers := []api.Rat{a, b, a, b, a, b, a, b, a}
	for _, g := range []api.Gen{
		{Kind: api.Toep, N: 5, A: numbers}, {Kind: api.Hank, N: 5, A: numbers}, {Kind: api.Circ, N: 8, A: numbers[:8]},
		{Kind: api.Vand, N: 8, A: numbers[1:]}, {Kind: api.ToepGen, N: 4, R: 2, G: numbers[:8], H: numbers[1:]},
		{Kind: api.CauGen, N: 1, R: 3, A: numbers[:1], B: numbers[1:2], G: numbers[:3], H: numbers[:3]},
	} {
		expectCheck(t, g, api.OK)
		for i := range g.N {
			if !ask(g, g, i, g.N-1).like(ask(copied(g), g, i, g.N-1)) {
				t.Errorf("%+v answers otherwise where lists overlap", g)
			}
		}
	}
	if !slices.Equal(limbs, []uint32{7, 7, 7, 7, 9}) {
		t.Error("limbs that were handed in are changed")
	}
}

// P3: the same calls answer the same, whatever was asked between, and though
// the first answer was written over.
func TestP3TheSameAgain(t *testing.T) {
	between := allowed(85)
	for k, g := range append(allowed(86), strange()...) {
		i, j := k%8, k/3%8
		kept, first := ask(g, g, i, j), ask(g, g, i, j)
		first.apart()
		gen.Expand(between[k%len(between)])
		if !ask(g, g, i, j).like(kept) {
			t.Fatalf("%+v answers otherwise again", g)
		}
	}
}
