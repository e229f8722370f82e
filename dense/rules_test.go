package dense_test

import (
	"math/rand"
	"slices"
	"strconv"
	"testing"

	"anticline/api"
	"anticline/dense"
)

// answer is what one call answered: its numbers as rows, and its other
// results as a text.
type answer struct {
	rows matrix
	rest string
}

func (x answer) like(y answer) bool {
	return x.rest == y.rest && equalMatrix(x.rows, y.rows)
}

// calls: each call under its name. Of two matrices and a vector it takes what
// it needs.
func calls() map[string]func(a, b matrix, v vector) answer {
	return map[string]func(a, b matrix, v vector) answer{
		"Apply":  func(a, _ matrix, v vector) answer { return answer{rows: matrix{dense.Apply(a, v)}} },
		"Mul":    func(a, b matrix, _ vector) answer { return answer{rows: dense.Mul(a, b)} },
		"Turn":   func(a, _ matrix, _ vector) answer { return answer{rows: dense.Turn(a)} },
		"Det":    func(a, _ matrix, _ vector) answer { return answer{rows: matrix{{dense.Det(a)}}} },
		"Rank":   func(a, _ matrix, _ vector) answer { return answer{rest: strconv.Itoa(dense.Rank(a))} },
		"Minors": func(a, _ matrix, _ vector) answer { return answer{rows: matrix{dense.Minors(a)}} },
		"Solve": func(a, _ matrix, v vector) answer {
			x, e := dense.Solve(a, v)
			return answer{matrix{x}, e.Error()}
		},
	}
}

// wrong: what is no rational number, or one that is not right.
func wrong() vector {
	return vector{
		{}, {Neg: true}, {N: []uint32{1}}, {N: []uint32{1}, D: []uint32{0}}, {N: []uint32{1}, D: []uint32{0, 0}},
		{N: []uint32{1, 0}, D: []uint32{1}}, {N: []uint32{1}, D: []uint32{1, 0}}, {N: []uint32{1, 2, 3, 0}, D: []uint32{7}},
		{N: []uint32{7}, D: []uint32{1, 2, 3, 0}}, {N: []uint32{0}, D: []uint32{1}}, {N: []uint32{0, 0}, D: []uint32{1}},
		{Neg: true, D: []uint32{1}}, {D: []uint32{2}}, {D: []uint32{1, 1}}, {D: []uint32{0}}, {D: []uint32{1, 0}},
		{N: []uint32{2}, D: []uint32{2}}, {Neg: true, N: []uint32{6}, D: []uint32{4}},
		{N: []uint32{0, 3}, D: []uint32{0, 2}}, {N: []uint32{top, top, top, top}, D: []uint32{top, top, top, top}},
	}
}

// strange: what is no matrix.
func strange() []matrix {
	r := rand.New(rand.NewSource(50))
	l := []matrix{nil, {}, {nil}, {{}}, make(matrix, 16), make(matrix, 17)}
	for _, n := range []int{17, 18, 33, 100} {
		l = append(l, thrown(r, n, small), noughts(n))
	}
	for n := 1; n <= maxSize; n++ {
		for range 4 {
			i, j := r.Intn(n), r.Intn(n)
			change := func(at func(m matrix) matrix) { l = append(l, at(thrown(r, n, small))) }
			change(func(m matrix) matrix { m[i] = nil; return m })
			change(func(m matrix) matrix { m[i] = m[i][:j]; return m })
			change(func(m matrix) matrix { m[i] = append(m[i], m[j]...); return m })
			change(func(m matrix) matrix { return append(m, m[i]) })
			change(func(m matrix) matrix { return slices.Delete(m, i, i+1) })
		}
	}
	for _, n := range []int{1, 2, 3, 5, 8, 16} {
		for _, bad := range wrong() {
			m := thrown(r, n, small)
			m[r.Intn(n)][r.Intn(n)] = bad
			l = append(l, m, filled(n, func(i, j int) api.Rat { return bad }))
		}
		l = append(l, filled(n, func(i, j int) api.Rat { return wrong()[r.Intn(len(wrong()))] }))
	}
	return l
}

func strangeVectors() []vector {
	r := rand.New(rand.NewSource(51))
	l := []vector{nil, {}, make(vector, 16), make(vector, 17)}
	for n := 1; n <= 18; n++ {
		v := thrownVector(r, n, small)
		l = append(l, v)
		if n%4 == 1 {
			bad := slices.Clone(v)
			bad[r.Intn(n)] = wrong()[r.Intn(len(wrong()))]
			l = append(l, bad)
		}
	}
	return l
}

// some are matrices, four of each size.
func some(seed int64) []matrix {
	r := rand.New(rand.NewSource(seed))
	var l []matrix
	for n := 1; n <= maxSize; n++ {
		l = append(l, thrown(r, n, small), thrown(r, n, sparse), ofRank(r, n, r.Intn(n)))
		if n <= 4 {
			l = append(l, thrown(r, n, long))
		} else {
			l = append(l, ones(n))
		}
	}
	return l
}

// P1: whatever is given, a call answers.
func TestP1NoCallPanics(t *testing.T) {
	t.Parallel()
	bad, vectors := strange(), strangeVectors()
	good := some(52)
	for _, call := range calls() {
		for k, m := range bad {
			other := good[k%len(good)]
			call(m, other, other[0])
			call(other, m, vectors[k%len(vectors)])
			call(m, bad[(k+1)%len(bad)], vectors[(k+1)%len(vectors)])
			call(m, m, nil)
			if len(m) > 0 {
				call(m, m, m[0])
			}
		}
	}
}

// P1: what is much too long is not gone through, or ends soon.
func TestP1Long(t *testing.T) {
	t.Parallel()
	m, long := ones(2), make(vector, 1<<20)
	for _, call := range calls() {
		for _, bad := range []matrix{make(matrix, 1<<20), {long}, slices.Repeat(matrix{long}, 1<<20), {m[0], long}} {
			call(bad, m, m[0])
			call(m, bad, long)
			call(bad, bad, long)
		}
	}
}

// P1: each size of a matrix with each size of another one, and of a vector.
func TestP1SizesThatDoNotAgree(t *testing.T) {
	t.Parallel()
	r := rand.New(rand.NewSource(53))
	for n := range maxSize + 3 {
		m := thrown(r, n, digit)
		for k := range maxSize + 3 {
			other, v := thrown(r, k, digit), thrownVector(r, k, digit)
			for _, call := range calls() {
				call(m, other, v)
			}
		}
	}
}

// P1: numbers of a vector are wrong by turns.
func TestP1WrongNumbersOfAVector(t *testing.T) {
	t.Parallel()
	for _, m := range some(54) {
		for k, bad := range wrong() {
			v := slices.Clone(m[0])
			v[k%len(v)] = bad
			dense.Apply(m, v)
			dense.Solve(m, v)
		}
	}
}

// memory is lists, with room behind them that is marked, and what they were.
type memory struct {
	limbs, limbsWere [][]uint32
	rows, rowsWere   []vector
	all, allWere     matrix
}

// roomy is a list in memory of its own.
func roomy[T any](l []T, mark T) []T {
	return append(append(make([]T, 0, len(l)+3), l...), mark, mark, mark)[:len(l)]
}

func cloned[T any](lists [][]T) [][]T {
	own := make([][]T, len(lists))
	for k, l := range lists {
		own[k] = slices.Clone(l)
	}
	return own
}

// laid puts a matrix, or vectors, into memory of its own.
func laid(m matrix) (matrix, *memory) {
	in := &memory{}
	rows := roomy(m, vector{{Neg: true}})
	for i, row := range rows {
		rows[i] = roomy(row, api.Rat{Neg: true, D: []uint32{77}})
		for j, a := range rows[i] {
			a = api.Rat{Neg: a.Neg, N: roomy(a.N, 0xdeadbeef), D: roomy(a.D, 0xdeadbeef)}
			in.limbs = append(in.limbs, a.N[:cap(a.N)], a.D[:cap(a.D)])
			rows[i][j] = a
		}
		in.rows = append(in.rows, rows[i][:cap(rows[i])])
	}
	in.all = rows[:cap(rows)]
	in.limbsWere, in.rowsWere, in.allWere = cloned(in.limbs), cloned(in.rows), slices.Clone(in.all)
	return rows, in
}

// stayed tells by the lists themselves, not by what they hold alone: a number
// that gives way to an equal one is a change, too.
func (m *memory) stayed() bool {
	return slices.EqualFunc(m.limbs, m.limbsWere, slices.Equal) &&
		slices.EqualFunc(m.rows, m.rowsWere, func(x, y vector) bool {
			return slices.EqualFunc(x, y, func(a, b api.Rat) bool {
				return a.Neg == b.Neg && sameList(a.N, b.N) && sameList(a.D, b.D)
			})
		}) && slices.EqualFunc(m.all, m.allWere, sameList)
}

func sameList[T any](a, b []T) bool {
	return len(a) == len(b) && cap(a) == cap(b) && (cap(a) == 0 || &a[:1][0] == &b[:1][0])
}

// overwrite fills all lists of an answer, their spare room too, each with
// something of its own, and tells whether each holds it when all are filled.
func overwrite(m matrix) bool {
	rows := slices.Clone(m[:cap(m)])
	var lists [][]uint32
	for _, row := range rows {
		for _, a := range row[:cap(row)] {
			lists = append(lists, a.N[:cap(a.N)], a.D[:cap(a.D)])
		}
	}
	apart := filledApart(lists, func(k int) uint32 { return uint32(k) }, func(a, b uint32) bool { return a == b })
	return filledApart(rows, func(k int) api.Rat { return api.Rat{N: []uint32{uint32(k)}} }, equal) && apart
}

func filledApart[T any](lists [][]T, own func(k int) T, alike func(a, b T) bool) bool {
	for k, l := range lists {
		l = l[:cap(l)]
		for i := range l {
			l[i] = own(k)
		}
	}
	for k, l := range lists {
		if slices.ContainsFunc(l[:cap(l)], func(v T) bool { return !alike(v, own(k)) }) {
			return false
		}
	}
	return true
}

// P2: what is handed in, its spare room too, stays as it was, and no answer
// lies in it; no two lists of an answer share memory. Of what is no matrix,
// too.
func TestP2Memory(t *testing.T) {
	t.Parallel()
	good, vectors := some(55), strangeVectors()
	for name, call := range calls() {
		for k, m := range append(some(56), strange()...) {
			other, v := good[k%len(good)], vectors[k%len(vectors)]
			if k < len(good) {
				v = other[0]
			}
			inM, memoryM := laid(m)
			inOther, memoryOther := laid(other)
			inV, memoryV := laid(matrix{v})
			stayed := func() bool { return memoryM.stayed() && memoryOther.stayed() && memoryV.stayed() }
			got := call(inM, inOther, inV[0])
			if !stayed() {
				t.Fatalf("%s: what was handed in is changed: %v", name, m)
			}
			if !overwrite(got.rows) {
				t.Fatalf("%s: two lists of an answer share memory: %v", name, m)
			}
			if !stayed() {
				t.Fatalf("%s: an answer lies in what was handed in: %v", name, m)
			}
		}
	}
}

// P2: one list for all limbs, one row for all rows, one matrix for both, and a
// row of it as the vector are no hindrance.
func TestP2ListsHandedInThatOverlap(t *testing.T) {
	t.Parallel()
	limbs := []uint32{7, 7, 7, 7, 8}
	number := func(k int) api.Rat {
		return api.Rat{Neg: k%3 == 0, N: limbs[k%4 : 4], D: limbs[4:]}
	}
	for n := 1; n <= maxSize; n++ {
		row := make(vector, 2*n)
		for k := range row {
			row[k] = number(k * k)
		}
		var shifted matrix
		for i := range n {
			shifted = append(shifted, row[i:i+n])
		}
		for _, m := range []matrix{shifted, slices.Repeat(matrix{row[:n]}, n)} {
			for name, call := range calls() {
				inM, _ := laid(m)
				inOther, _ := laid(m)
				inV, _ := laid(m[:1])
				if got, want := call(m, m, m[0]), call(inM, inOther, inV[0]); !got.like(want) {
					t.Fatalf("%s: %v where lists overlap, not %v: of %s", name, got, want, words(m...))
				}
			}
		}
	}
	if !slices.Equal(limbs, []uint32{7, 7, 7, 7, 8}) {
		t.Error("limbs that were handed in are changed")
	}
}

// P2: nought with no list and with an empty one is the same.
func TestP2NoListIsAnEmptyOne(t *testing.T) {
	t.Parallel()
	for _, m := range some(57) {
		change := func(n []uint32) matrix {
			return filled(len(m), func(i, j int) api.Rat {
				if len(m[i][j].N) == 0 {
					return api.Rat{N: n, D: []uint32{1}}
				}
				return m[i][j]
			})
		}
		none, empty := change(nil), change([]uint32{})
		for name, call := range calls() {
			if !call(none, none, none[0]).like(call(empty, empty, empty[0])) {
				t.Fatalf("%s tells nil from empty: of %s", name, words(m...))
			}
		}
	}
}

// P2: what was handed in is not kept: an answer stays when it is written over.
func TestP2NotKept(t *testing.T) {
	t.Parallel()
	good := some(58)
	for name, call := range calls() {
		for k, m := range good {
			other := good[k/4*4]
			inM, _ := laid(m)
			inOther, _ := laid(other)
			inV, _ := laid(other[:1])
			got := call(inM, inOther, inV[0])
			overwrite(inM)
			overwrite(inOther)
			overwrite(inV)
			if want := call(m, other, other[0]); !got.like(want) {
				t.Fatalf("%s: %v, not %v, when what was handed in is written over: of %s", name, got, want, words(m...))
			}
		}
	}
}

// P3: the same calls answer the same, whatever was asked between, and though
// the first answer was written over.
func TestP3TheSameAgain(t *testing.T) {
	t.Parallel()
	good, bad := some(59), strange()
	for name, call := range calls() {
		for k, m := range good {
			other := good[k/4*4]
			kept, first := call(m, other, other[0]), call(m, other, other[0])
			overwrite(first.rows)
			call(other, m, m[0])
			call(bad[k], m, m[0])
			if again := call(m, other, other[0]); !again.like(kept) {
				t.Fatalf("%s: %v, and again %v: of %s", name, kept, again, words(m...))
			}
		}
	}
}

// P4: beside an error there is no vector, not even where some would do.
func TestP4NoVectorBesideAnError(t *testing.T) {
	t.Parallel()
	r := rand.New(rand.NewSource(60))
	for n := 1; n <= maxSize; n++ {
		for rank := 0; rank < n; rank += 1 + n/4 {
			m := ofRank(r, n, rank)
			for _, b := range []vector{bigApply(m, m[0]), noughts(n)[0], thrownVector(r, n, small)} {
				expectSingular(t, m, b)
			}
		}
	}
}
