package code_test

import (
	"bytes"
	"math"
	"math/rand"
	"slices"
	"testing"

	"anticline/api"
	"anticline/code"
	"anticline/gen"
)

// strange: Gens that gen.Check refuses, for all reasons.
func strange() []api.Gen {
	r := rand.New(rand.NewSource(110))
	many := append(make([]uint32, 3999), 1)
	numbers := append(wrong(), api.Rat{N: many, D: []uint32{1}}, api.Rat{N: many, D: many}, api.Rat{N: []uint32{1}, D: []uint32{0, 0, 0, 0, 1}})
	numbers = append(numbers, longest()...)
	sizes := []int{math.MinInt, -1 << 32, -1, 0, 1, 2, 3, 4, 8, 9, 256, 1 << 32, math.MaxInt}
	l := []api.Gen{{}, {A: numbers, B: numbers, G: numbers, H: numbers}}
	for _, kind := range []int{math.MinInt, -1, 0, 1, 2, 3, 4, 5, 6, 7, 8, 257, math.MaxInt} {
		for _, n := range sizes {
			l = append(l, api.Gen{Kind: kind, N: n}, api.Gen{Kind: kind, N: n, R: sizes[r.Intn(len(sizes))], A: numbers, G: numbers})
		}
	}
	for _, g := range allowed(110) {
		for place := range 4 {
			less, more := g, g
			*row(&less, place) = nil
			*row(&more, place) = append(slices.Clone(*row(&more, place)), numbers...)
			l = append(l, less, more)
		}
		l = append(l, spoiltOnce(g, numbers[r.Intn(len(numbers))])...)
	}
	return slices.DeleteFunc(l, func(g api.Gen) bool { return gen.Check(g) == api.OK })
}

// P1: whatever is given, a call answers.
func TestP1NoCallPanics(t *testing.T) {
	for _, g := range strange() {
		code.Bytes(g)
	}
	r := rand.New(rand.NewSource(111))
	for range 20000 {
		b := make([]byte, r.Intn(40))
		for k := range b {
			b[k] = byte(r.Intn(256) >> r.Intn(9))
		}
		code.Parse(b)
	}
}

// P1: all that there can be of up to four bytes, each one of a few.
func TestP1NoCallPanicsOnFewBytes(t *testing.T) {
	few := []byte{0, 1, 2, 3, 4, 5, 6, 7, 8, 9, 128, 255}
	texts := [][]byte{{}}
	for range 4 {
		var longer [][]byte
		for _, b := range texts {
			code.Parse(b)
			for _, v := range few {
				longer = append(longer, append(bytes.Clone(b), v))
			}
		}
		texts = longer
	}
	for _, b := range texts {
		code.Parse(b)
	}
}

// P1: many bytes end soon, too.
func TestP1ManyBytes(t *testing.T) {
	b := make([]byte, 1<<26)
	if _, e := code.Parse(b); e != api.ErrKind {
		t.Error(e)
	}
	copy(b, []byte{7, 8, 3})
	if _, e := code.Parse(b); e != api.ErrMore {
		t.Error(e)
	}
}

// roomy is a list in memory of its own, with room behind it that is marked.
func roomy[T any](l []T, mark T) []T {
	return append(slices.Clone(l), mark, mark, mark)[:len(l)]
}

// lists are all lists of a Gen, their spare room too.
func lists(g api.Gen) (rows [][]api.Rat, limbs [][]uint32) {
	for place := range 4 {
		l := *row(&g, place)
		rows = append(rows, l[:cap(l)])
		for _, a := range l {
			limbs = append(limbs, a.N[:cap(a.N)], a.D[:cap(a.D)])
		}
	}
	return rows, limbs
}

// laid is g in lists of its own with marked room behind them, and a question
// whether all of them are still as they were.
func laid(g api.Gen) (api.Gen, func() bool) {
	for place := range 4 {
		l := row(&g, place)
		*l = roomy(*l, api.Rat{Neg: true, D: []uint32{77}})
		for k, a := range *l {
			(*l)[k] = api.Rat{Neg: a.Neg, N: roomy(a.N, 0xdeadbeef), D: roomy(a.D, 0xdeadbeef)}
		}
	}
	rows, limbs := lists(g)
	rowsWere, limbsWere := cloned(rows), cloned(limbs)
	return g, func() bool {
		return slices.EqualFunc(limbs, limbsWere, slices.Equal) &&
			slices.EqualFunc(rows, rowsWere, func(x, y []api.Rat) bool { return slices.EqualFunc(x, y, identical) })
	}
}

func cloned[T any](lists [][]T) [][]T {
	own := make([][]T, len(lists))
	for k, l := range lists {
		own[k] = slices.Clone(l)
	}
	return own
}

// identical tells by the lists themselves: a number that gives way to an equal
// one is a change, too.
func identical(x, y api.Rat) bool {
	sameList := func(a, b []uint32) bool {
		return len(a) == len(b) && cap(a) == cap(b) && (cap(a) == 0 || &a[:1][0] == &b[:1][0])
	}
	return x.Neg == y.Neg && sameList(x.N, y.N) && sameList(x.D, y.D)
}

// P2: what is handed to Bytes stays as it was, and is not kept.
func TestP2Bytes(t *testing.T) {
	for _, g := range append(allowed(112), strange()...) {
		in, stayed := laid(g)
		b := code.Bytes(in)
		kept := bytes.Clone(b)
		if !stayed() {
			t.Fatalf("%+v: what was handed in is changed", g)
		}
		fill(b[:cap(b)], 99)
		if !stayed() {
			t.Fatalf("%+v: the answer lies in what was handed in", g)
		}
		if again := code.Bytes(in); !bytes.Equal(again, kept) {
			t.Fatalf("%+v: %v, and again %v", g, kept, again)
		}
	}
}

func fill[T any](l []T, v T) {
	for k := range l {
		l[k] = v
	}
}

// P2: what is handed to Parse stays as it was, its spare room too, and the
// answer is none of it.
func TestP2Parse(t *testing.T) {
	for _, g := range allowed(113) {
		for _, whole := range [][]byte{written(g), written(g)[:2], append(written(g), 0), written(spoiltOnce(g, api.Rat{})[0])} {
			b := roomy(whole, 0xee)
			room := b[:cap(b)]
			were := bytes.Clone(room)
			read, e := code.Parse(b)
			if !bytes.Equal(room, were) {
				t.Fatalf("%v: what was handed in is changed", whole)
			}
			fill(room, 0xdd)
			if e == api.OK && !like(read, g) {
				t.Fatalf("%v: the answer lies in what was handed in", whole)
			}
			overwrite(read)
			if slices.ContainsFunc(room, func(v byte) bool { return v != 0xdd }) {
				t.Fatalf("%v: the answer lies in what was handed in", whole)
			}
		}
	}
}

// spoiltOnce: g with a number at the first place of each row that has one, by
// turns.
func spoiltOnce(g api.Gen, a api.Rat) []api.Gen {
	var l []api.Gen
	for place := range 4 {
		if len(*row(&g, place)) > 0 {
			l = append(l, changed(g, place, 0, a))
		}
	}
	return l
}

// overwrite writes something of its own into each list of a Gen, its spare
// room too, and answers whether each holds its own when all are written.
func overwrite(g api.Gen) bool {
	rows, limbs := lists(g)
	for k, l := range limbs {
		fill(l, uint32(k))
	}
	for k, l := range rows {
		fill(l, api.Rat{N: []uint32{uint32(k)}})
	}
	apart := true
	for k, l := range limbs {
		apart = apart && !slices.ContainsFunc(l, func(v uint32) bool { return v != uint32(k) })
	}
	for k, l := range rows {
		apart = apart && !slices.ContainsFunc(l, func(a api.Rat) bool { return len(a.N) != 1 || a.N[0] != uint32(k) })
	}
	return apart
}

// P2: no two lists of what Parse answers share memory, their spare room too.
func TestP2ListsOfAnAnswer(t *testing.T) {
	for _, g := range allowed(114) {
		read, e := code.Parse(written(g))
		if e != api.OK || !overwrite(read) {
			t.Fatalf("%+v: two lists of an answer share memory", g)
		}
	}
}

// P2: what is added behind a row, or behind the limbs of a number, is in no
// other list.
func TestP2AddedBehindARow(t *testing.T) {
	for _, g := range allowed(115) {
		read, _ := code.Parse(written(g))
		for place := range 4 {
			l := *row(&read, place)
			_ = append(l, number(777, 1), number(777, 1))
			for _, a := range l {
				_, _ = append(a.N, 777), append(a.D, 777)
			}
		}
		if !like(read, g) {
			t.Fatalf("%+v: what is added to one list is in another one", g)
		}
	}
}

// P2: one row for all rows, and limbs that lie in one another, are no
// hindrance.
func TestP2ListsHandedInThatOverlap(t *testing.T) {
	limbs := []uint32{3, 3, 3, 4}
	short, long := api.Rat{N: limbs[:1], D: limbs[3:]}, api.Rat{Neg: true, N: limbs[:3], D: limbs[3:]}
	row := slices.Repeat([]api.Rat{short, long}, 12)
	for n := 1; n <= 8; n++ {
		for _, g := range []api.Gen{
			{Kind: api.Hank, N: n, A: row[:2*n-1]}, {Kind: api.ToepGen, N: n, R: 2, G: row[:2*n], H: row[1 : 2*n+1]},
			{Kind: api.CauGen, N: n, R: 1, A: slices.Repeat(row[:1], n), B: slices.Repeat(row[1:2], n), G: row[:n], H: row[:n]},
		} {
			expectBytes(t, g, written(g))
		}
	}
	if !slices.Equal(limbs, []uint32{3, 3, 3, 4}) {
		t.Error("limbs that were handed in are changed")
	}
}

// P2: no list and an empty one are the same.
func TestP2NoListAndAnEmptyOne(t *testing.T) {
	for _, g := range allowed(116) {
		empty := g
		for place := range 4 {
			l := row(&empty, place)
			*l = slices.Clone(*l)
			if len(*l) == 0 {
				*l = []api.Rat{}
			}
			for k := range *l {
				(*l)[k].N = append([]uint32{}, (*l)[k].N...)
			}
		}
		expectBytes(t, empty, written(g))
	}
}

// P3: the same calls answer the same, whatever was asked between, and though
// the first answer was written over.
func TestP3TheSameAgain(t *testing.T) {
	between := allowed(117)
	for k, g := range allowed(118) {
		b := code.Bytes(g)
		read, _ := code.Parse(b)
		code.Parse(code.Bytes(between[k]))
		expectError(t, b[:len(b)-1], api.ErrCut)
		overwrite(read)
		expectParse(t, b, g)
		fill(b, 0)
		expectBytes(t, g, written(g))
	}
}

// T4: what is read hangs on the bytes alone: not on where they stand, nor on
// what stands behind them.
func TestT4OfTheseBytesAlone(t *testing.T) {
	for _, g := range allowed(119) {
		b := written(g)
		long := slices.Concat([]byte{1, 2, 3}, b, b)
		expectParse(t, long[3:3+len(b)], g)
		expectError(t, long[3:2+len(b)], api.ErrCut)
		expectError(t, long[3:4+len(b)], api.ErrMore)
	}
}
