package fast_test

import (
	"math"
	"math/rand"
	"slices"
	"testing"

	"anticline/api"
	"anticline/fast"
	"anticline/gen"
)

// answer is what one call answered.
type answer struct {
	rows matrix
	e    api.Errno
}

func (x answer) like(y answer) bool {
	return x.e == y.e && equalMatrix(x.rows, y.rows)
}

// calls: each call under its name.
func calls() map[string]func(g api.Gen, v vector) answer {
	return map[string]func(g api.Gen, v vector) answer{
		"Apply": func(g api.Gen, v vector) answer {
			x, e := fast.Apply(g, v)
			return answer{matrix{x}, e}
		},
		"Disp": func(g api.Gen, _ vector) answer { return answer{rows: fast.Disp(g)} },
	}
}

// wrong: what is no rational number, or one that is not right.
func wrong() vector {
	return vector{
		{}, {Neg: true}, {N: []uint32{1}}, {N: []uint32{1}, D: []uint32{0}}, {N: []uint32{1}, D: []uint32{0, 0}},
		{N: []uint32{1, 0}, D: []uint32{1}}, {N: []uint32{1}, D: []uint32{1, 0}}, {N: []uint32{1, 2, 3, 0}, D: []uint32{7}},
		{N: []uint32{7}, D: []uint32{1, 2, 3, 0}}, {N: []uint32{0}, D: []uint32{1}}, {N: []uint32{0, 0}, D: []uint32{1}},
		{Neg: true, D: []uint32{1}}, {D: []uint32{2}}, {D: []uint32{1, 1}}, {D: []uint32{0}}, {D: []uint32{1, 0}},
		{N: []uint32{2}, D: []uint32{2}}, {Neg: true, N: []uint32{6}, D: []uint32{4}},
		{N: []uint32{0, 3}, D: []uint32{0, 2}}, {N: []uint32{top, top, top, top}, D: []uint32{top, top, top, top}},
	}
}

// tooLong: numbers that are right, but of more limbs than a Gen's may have.
func tooLong() vector {
	many := append(make([]uint32, 3999), 1)
	return vector{
		{N: []uint32{0, 0, 0, 0, 1}, D: []uint32{1}}, {N: []uint32{1}, D: []uint32{0, 0, 0, 0, 1}},
		{N: many, D: []uint32{1}}, {N: []uint32{1}, D: many},
	}
}

const rowNames = "ABGH"

// row hands out a row of a Gen by its place, so that it can be changed.
func row(g *api.Gen, place int) *vector {
	return []*vector{&g.A, &g.B, &g.G, &g.H}[place]
}

// strange: what is no Gen.
func strange() []api.Gen {
	r := rand.New(rand.NewSource(60))
	numbers := slices.Concat(wrong(), tooLong(), ints(0, 1, -1, 2))
	sizes := []int{math.MinInt, -1 << 32, -2, -1, 0, 1, 2, 3, 7, 8, 9, 16, 1 << 32, math.MaxInt}
	l := []api.Gen{{}, {A: numbers, B: numbers, G: numbers, H: numbers}}
	for kind := -1; kind <= 9; kind++ {
		for _, n := range sizes {
			l = append(l, api.Gen{Kind: kind, N: n}, api.Gen{Kind: kind, N: n, R: sizes[r.Intn(len(sizes))], A: numbers, G: numbers[:r.Intn(len(numbers))]})
		}
	}
	for _, kind := range []int{math.MinInt, -1, 0, 8, 9, math.MaxInt} {
		l = append(l, api.Gen{Kind: kind, N: 2, A: ints(1, 2, 3), B: ints(4, 5)})
	}
	for _, g := range gens(60, small) {
		for place := range rowNames {
			less, more := g, g
			*row(&less, place) = nil
			*row(&more, place) = slices.Concat(*row(&g, place), ints(1))
			l = append(l, more)
			if len(*row(&g, place)) > 0 {
				l = append(l, less, changed(g, place, numbers[r.Intn(len(wrong()))]), changed(g, place, tooLong()[r.Intn(4)]))
			}
		}
		if len(g.B) > 0 {
			l = append(l, changed(g, 0, g.B[0]))
		}
		g.N = sizes[r.Intn(5)]
		l = append(l, g)
	}
	return l
}

// changed is a Gen with another number in a row's front.
func changed(g api.Gen, place int, to api.Rat) api.Gen {
	l := slices.Clone(*row(&g, place))
	l[0] = to
	*row(&g, place) = l
	return g
}

func strangeVectors() []vector {
	r := rand.New(rand.NewSource(61))
	l := []vector{nil, {}, make(vector, 1), make(vector, 8), make(vector, 9), make(vector, 1<<20)}
	for n := 1; n <= api.MaxSize; n++ {
		for _, bad := range wrong() {
			v := thrown(r, n, small)
			v[r.Intn(n)] = bad
			l = append(l, v)
		}
		l = append(l, thrown(r, n, small))
	}
	return l
}

// The strange ones must be so, or what is asked of them says little.
func TestP1StrangeOnesAreNoGens(t *testing.T) {
	t.Parallel()
	for _, g := range strange() {
		if gen.Check(g) == api.OK {
			t.Errorf("a Gen: %+v", g)
		}
	}
	for _, g := range all(62) {
		if e := gen.Check(g); e != api.OK {
			t.Errorf("%v: %+v", e, g)
		}
	}
}

// P1: whatever is given, a call answers.
func TestP1NoCallPanics(t *testing.T) {
	t.Parallel()
	good, vectors := all(63), strangeVectors()
	for _, call := range calls() {
		for k, g := range append(good, strange()...) {
			for i := range 12 {
				call(g, vectors[(k*5+i*7)%len(vectors)])
			}
			for _, row := range []vector{g.A, g.B, g.G, g.H, nil} {
				call(g, row)
			}
			if 0 < g.N && g.N < 100 {
				call(g, noughts(g.N))
				call(g, make(vector, g.N))
			}
		}
	}
}

// P1: each wrong number at each place of a vector as long as it must be.
func TestP1WrongNumbersOfAVector(t *testing.T) {
	t.Parallel()
	for _, g := range gens(64, small) {
		for _, bad := range wrong() {
			for k := range g.N {
				v := noughts(g.N)
				v[k] = bad
				fast.Apply(g, v)
			}
		}
	}
}

// P1: what is much too long is refused, or ends soon.
func TestP1Long(t *testing.T) {
	t.Parallel()
	r := rand.New(rand.NewSource(65))
	many, long := make(vector, 1<<20), thrown(r, 24, sized(4000))
	for _, g := range []api.Gen{
		{Kind: api.Toep, N: 1 << 19, A: many[1:]}, {Kind: api.Circ, N: 1 << 20, A: many}, {Kind: api.Vand, N: 1 << 20, A: many},
		{Kind: api.Cauchy, N: 1 << 20, A: many, B: many}, {Kind: api.ToepGen, N: 1 << 20, R: 1, G: many, H: many},
		{Kind: api.Vand, N: 8, A: long[:8]}, {Kind: api.Cauchy, N: 8, A: long[:8], B: long[8:16]},
		{Kind: api.ToepGen, N: 8, R: 3, G: long, H: long}, {Kind: api.CauGen, N: 8, R: 3, A: long[:8], B: long[8:16], G: long, H: long},
	} {
		for _, call := range calls() {
			call(g, many)
			call(g, long[:8])
		}
	}
}

// memory is lists, with room behind them that is marked, and what they were.
type memory struct {
	limbs, limbsWere [][]uint32
	rows, rowsWere   []vector
}

// roomy is a list in memory of its own.
func roomy[T any](l []T, mark T) []T {
	return append(append(make([]T, 0, len(l)+3), l...), mark, mark, mark)[:len(l)]
}

// lay puts a row into memory of its own.
func (m *memory) lay(row vector) vector {
	row = roomy(row, api.Rat{Neg: true, D: []uint32{77}})
	for k, a := range row {
		row[k] = api.Rat{Neg: a.Neg, N: roomy(a.N, 0xdeadbeef), D: roomy(a.D, 0xdeadbeef)}
		for _, l := range [][]uint32{row[k].N, row[k].D} {
			m.limbs = append(m.limbs, l[:cap(l)])
			m.limbsWere = append(m.limbsWere, slices.Clone(l[:cap(l)]))
		}
	}
	m.rows = append(m.rows, row[:cap(row)])
	m.rowsWere = append(m.rowsWere, slices.Clone(row[:cap(row)]))
	return row
}

// laid puts a Gen and a vector into memory of their own.
func laid(g api.Gen, v vector) (api.Gen, vector, *memory) {
	m := &memory{}
	for place := range rowNames {
		*row(&g, place) = m.lay(*row(&g, place))
	}
	return g, m.lay(v), m
}

// stayed tells by the lists themselves, not by what they hold alone: a number
// that gives way to an equal one is a change, too.
func (m *memory) stayed() bool {
	return slices.EqualFunc(m.limbs, m.limbsWere, slices.Equal) &&
		slices.EqualFunc(m.rows, m.rowsWere, func(x, y vector) bool {
			return slices.EqualFunc(x, y, func(a, b api.Rat) bool {
				return a.Neg == b.Neg && sameList(a.N, b.N) && sameList(a.D, b.D)
			})
		})
}

func sameList[T any](a, b []T) bool {
	return len(a) == len(b) && cap(a) == cap(b) && (cap(a) == 0 || &a[:1][0] == &b[:1][0])
}

// overwrite fills all lists of an answer, their spare room too, each with
// something of its own, and tells whether each holds it when all are filled.
func overwrite(m matrix) bool {
	rows := slices.Clone(m[:cap(m)])
	var lists [][]uint32
	for _, row := range rows {
		for _, a := range row[:cap(row)] {
			lists = append(lists, a.N[:cap(a.N)], a.D[:cap(a.D)])
		}
	}
	apart := filledApart(lists, func(k int) uint32 { return uint32(k) }, func(a, b uint32) bool { return a == b })
	return filledApart(rows, func(k int) api.Rat { return api.Rat{N: []uint32{uint32(k)}} }, equal) && apart
}

func filledApart[T any](lists [][]T, own func(k int) T, alike func(a, b T) bool) bool {
	for k, l := range lists {
		l = l[:cap(l)]
		for i := range l {
			l[i] = own(k)
		}
	}
	for k, l := range lists {
		if slices.ContainsFunc(l[:cap(l)], func(v T) bool { return !alike(v, own(k)) }) {
			return false
		}
	}
	return true
}

// P2: what is handed in, its spare room too, stays as it was, and no answer
// lies in it; no two lists of an answer share memory. Of what is no Gen, and
// of vectors that are none, too.
func TestP2Memory(t *testing.T) {
	t.Parallel()
	r := rand.New(rand.NewSource(66))
	vectors := slices.DeleteFunc(strangeVectors(), func(v vector) bool { return len(v) > 100 })
	for name, call := range calls() {
		for k, g := range append(all(66), strange()...) {
			few := []vector{nil, vectors[k%len(vectors)], vectors[(k+5)%len(vectors)]}
			if 0 < g.N && g.N < 20 {
				bad := thrown(r, g.N, small)
				bad[k%g.N] = wrong()[k%len(wrong())]
				few = append(few, thrown(r, g.N, small), unit(g.N, k%g.N), noughts(g.N), bad)
			}
			for _, v := range few {
				inG, inV, in := laid(g, v)
				got := call(inG, inV)
				if !in.stayed() {
					t.Fatalf("%s: what was handed in is changed: %+v, %v", name, g, v)
				}
				if !overwrite(got.rows) {
					t.Fatalf("%s: two lists of an answer share memory: %+v, %v", name, g, v)
				}
				if !in.stayed() {
					t.Fatalf("%s: an answer lies in what was handed in: %+v, %v", name, g, v)
				}
			}
		}
	}
}

// P2: even where an answer is just what was handed in, it is new memory.
func TestP2AnswersThatAreAlike(t *testing.T) {
	t.Parallel()
	for n := 1; n <= api.MaxSize; n++ {
		a := unit(2*n-1, n-1)
		v := ints(5, 6, 7, 8, 9, 10, 11, 12)[:n]
		for _, kind := range []int{api.Toep, api.Hank} { // one leaves the vector, one turns it round
			g, inV, in := laid(api.Gen{Kind: kind, N: n, A: a}, v)
			want := slices.Clone(v)
			if kind == api.Hank {
				slices.Reverse(want)
			}
			expectApply(t, g, inV, want)
			overwrite(matrix{apply(t, g, inV)})
			overwrite(fast.Disp(g))
			if !in.stayed() {
				t.Fatalf("an answer lies in what was handed in: %+v", g)
			}
		}
	}
}

// P2: one list for all limbs, one row for all rows and for the vector are no
// hindrance.
func TestP2ListsHandedInThatOverlap(t *testing.T) {
	t.Parallel()
	limbs := []uint32{7, 7, 7, 7, 9}
	a := api.Rat{N: limbs[:1], D: limbs[4:]}
	b := api.Rat{Neg: true, N: limbs[:2], D: limbs[4:]}
	numbers := vector{a, b, a, b, a, b, a, b, a}
	for _, g := range []api.Gen{
		{Kind: api.Toep, N: 5, A: numbers}, {Kind: api.Hank, N: 5, A: numbers}, {Kind: api.Circ, N: 8, A: numbers[:8]},
		{Kind: api.Vand, N: 8, A: numbers[1:]}, {Kind: api.Cauchy, N: 1, A: numbers[:1], B: numbers[1:2]},
		{Kind: api.ToepGen, N: 4, R: 2, G: numbers[:8], H: numbers[1:]},
		{Kind: api.CauGen, N: 1, R: 3, A: numbers[:1], B: numbers[1:2], G: numbers[:3], H: numbers[:3]},
	} {
		v := numbers[:g.N]
		expectApply(t, g, v, summed(tableOf(g), v))
		expectDisp(t, g, displaced(g, tableOf(g)))
	}
	if !slices.Equal(limbs, []uint32{7, 7, 7, 7, 9}) {
		t.Error("limbs that were handed in are changed")
	}
}

// P2: nought with no list and with an empty one is the same; so are rows that
// a kind doesn't have, and vectors without numbers.
func TestP2NoListIsAnEmptyOne(t *testing.T) {
	t.Parallel()
	r := rand.New(rand.NewSource(67))
	for _, g := range gens(67, sparse) {
		v := thrown(r, g.N, sparse)
		change := func(empty bool) (api.Gen, vector) {
			g, v := g, slices.Clone(v)
			for place := range rowNames {
				*row(&g, place) = slices.Clone(*row(&g, place))
				if len(*row(&g, place)) == 0 {
					*row(&g, place) = list[api.Rat](empty)
				}
			}
			for _, l := range []vector{g.A, g.B, g.G, g.H, v} {
				for k := range l {
					if len(l[k].N) == 0 {
						l[k].N = list[uint32](empty)
					}
				}
			}
			return g, v
		}
		noneG, noneV := change(false)
		emptyG, emptyV := change(true)
		for name, call := range calls() {
			if !call(noneG, noneV).like(call(emptyG, emptyV)) || !call(g, nil).like(call(emptyG, vector{})) {
				t.Fatalf("%s tells nil from empty: %+v, %v", name, g, v)
			}
		}
	}
}

// list is none, or an empty one.
func list[T any](empty bool) []T {
	if empty {
		return []T{}
	}
	return nil
}

// P2: what was handed in is not kept: an answer stays when it is written over.
func TestP2NotKept(t *testing.T) {
	t.Parallel()
	r := rand.New(rand.NewSource(68))
	for name, call := range calls() {
		for _, g := range all(68) {
			v := thrown(r, g.N, small)
			inG, inV, _ := laid(g, v)
			got := call(inG, inV)
			overwrite(matrix{inG.A, inG.B, inG.G, inG.H, inV})
			if want := call(g, v); !got.like(want) {
				t.Fatalf("%s: %v, not %v, when what was handed in is written over: %+v, %v", name, got, want, g, v)
			}
		}
	}
}

// P3: the same calls answer the same, whatever was asked between, and though
// the first answer was written over.
func TestP3TheSameAgain(t *testing.T) {
	t.Parallel()
	r := rand.New(rand.NewSource(69))
	between, bad := all(69), strange()
	for name, call := range calls() {
		for k, g := range all(70) {
			v := thrown(r, g.N, small)
			kept, first := call(g, v), call(g, v)
			overwrite(first.rows)
			call(between[k*7%len(between)], v)
			call(bad[k%len(bad)], v)
			call(g, v[1:])
			if again := call(g, v); !again.like(kept) {
				t.Fatalf("%s: %v, and again %v: %+v, %v", name, kept, again, g, v)
			}
		}
	}
}

// P3: an answer hangs on the numbers alone: not on where they stand, nor on
// the room behind them.
func TestP3OfTheseNumbersAlone(t *testing.T) {
	t.Parallel()
	r := rand.New(rand.NewSource(71))
	for name, call := range calls() {
		for _, g := range all(71) {
			v := thrown(r, g.N, small)
			inG, inV, _ := laid(g, v)
			if got, want := call(inG, inV), call(g, v); !got.like(want) {
				t.Fatalf("%s: %v, not %v, by where it stands: %+v, %v", name, got, want, g, v)
			}
		}
	}
}

// P4: beside an error there are no numbers, not even where some would do; else
// there are as many as promised.
func TestP4NoNumbersBesideAnError(t *testing.T) {
	t.Parallel()
	for _, g := range all(72) {
		for n := range 2*api.MaxSize + 2 {
			x, e := fast.Apply(g, ints(1, 2, 3, 4, 5, 6, 7, 8, 9, 10, 11, 12, 13, 14, 15, 16, 17)[:n])
			if n == g.N && (e != api.OK || len(x) != n) || n != g.N && (e != api.ErrLong || len(x) != 0) {
				t.Fatalf("Apply to %d numbers: %d beside %v: %+v", n, len(x), e, g)
			}
		}
	}
}
