package ntt_test

import (
	"math"
	"math/rand"
	"slices"
	"testing"

	"anticline/api"
	"anticline/ntt"
)

// call takes of two lists what it needs.
type call func(a, b []uint32) ([]uint32, api.Errno)

func calls() map[string]call {
	return map[string]call{
		"Transform":      func(a, _ []uint32) ([]uint32, api.Errno) { return ntt.Transform(a, false) },
		"Transform back": func(a, _ []uint32) ([]uint32, api.Errno) { return ntt.Transform(a, true) },
		"Conv":           ntt.Conv,
	}
}

// strange: lists that may not be handed in, to one call or another one.
func strange() [][]uint32 {
	r := rand.New(rand.NewSource(40))
	l := [][]uint32{nil, {}, {prime}, {top}, {1, prime}, {prime, 1}, make([]uint32, 2048), make([]uint32, 1<<16)}
	for n := 1; n <= 1100; n += 1 + n/7 {
		bad := thrown(r, n)
		for k := range bad {
			if r.Intn(3) == 0 {
				bad[k] = r.Uint32()
			}
		}
		l = append(l, bad, slices.Repeat([]uint32{top}, n), slices.Repeat([]uint32{prime}, n), with(thrown(r, n), n-1, prime))
	}
	return l
}

// good: lists that both calls allow.
func good(seed int64) [][]uint32 {
	r := rand.New(rand.NewSource(seed))
	var l [][]uint32
	for _, n := range lengths()[:10] {
		l = append(l, some(r, n)[:4]...)
	}
	return append(l, thrown(r, 1024))
}

func all(seed int64) [][]uint32 {
	return append(good(seed), strange()...)
}

// P1: whatever is given, a call answers.
func TestP1NoCallPanics(t *testing.T) {
	t.Parallel()
	lists := all(41)
	for _, call := range calls() {
		for _, a := range lists {
			for _, b := range lists {
				call(a, b)
			}
		}
	}
}

// P1: exponents beyond what is promised, too.
func TestP1PowOfAnyNumbers(t *testing.T) {
	t.Parallel()
	far := []int{math.MinInt, math.MinInt + 1, -1 << 62, -1 << 41, -farthest - 1, farthest + 1, 1 << 41, 1 << 62, math.MaxInt - 1, math.MaxInt}
	for _, a := range bases() {
		for _, n := range far {
			if first, again := ntt.Pow(a, n), ntt.Pow(a, n); first != again || first >= prime {
				t.Fatalf("Pow(%d, %d): %d, and again %d", a, n, first, again)
			}
		}
	}
}

// P1: what is much too long ends soon.
func TestP1Long(t *testing.T) {
	t.Parallel()
	long := make([]uint32, 1<<26)
	for name, call := range calls() {
		for range 1000 {
			if l, e := call(long, long); e != api.ErrLong || len(l) != 0 {
				t.Fatalf("%s: %v", name, e)
			}
		}
	}
}

const mark = 0xdeadbeef

// laid is a list in memory of its own, with room ahead of it and behind it
// that is marked, and a question whether all of it is still as it was.
func laid(l []uint32) ([]uint32, func() bool) {
	room := slices.Concat([]uint32{mark, mark}, l, slices.Repeat([]uint32{mark}, 2100))
	were := slices.Clone(room)
	return room[2 : 2+len(l)], func() bool { return slices.Equal(room, were) }
}

func fill(l []uint32, v uint32) {
	l = l[:cap(l)]
	for k := range l {
		l[k] = v
	}
}

// P2: what is handed in, its spare room too, stays as it was, and no answer,
// nor its spare room, lies in it.
func TestP2Memory(t *testing.T) {
	t.Parallel()
	lists := all(42)
	for name, call := range calls() {
		for k, a := range lists {
			for _, b := range [][]uint32{lists[(k*7+3)%len(lists)], lists[k%4], nil} {
				inA, stayedA := laid(a)
				inB, stayedB := laid(b)
				got, _ := call(inA, inB)
				if !stayedA() || !stayedB() {
					t.Fatalf("%s of %v .. and %v ..: what was handed in is changed", name, short(a), short(b))
				}
				fill(got, 77)
				if !stayedA() || !stayedB() {
					t.Fatalf("%s of %v .. and %v ..: the answer lies in what was handed in", name, short(a), short(b))
				}
			}
		}
	}
}

// P2: even where the answer is just what was handed in, it is new memory.
func TestP2AnswersThatAreAlike(t *testing.T) {
	t.Parallel()
	one := []uint32{1}
	for n := range maxPoints {
		l := slices.Repeat([]uint32{5}, n+1)
		for _, got := range [][]uint32{conv(t, l, one), conv(t, one, l), transform(t, l[:1], false), transform(t, l[:1], true)} {
			fill(got, 9)
		}
		if slices.ContainsFunc(l, func(v uint32) bool { return v != 5 }) || one[0] != 1 {
			t.Fatalf("%d: an answer lies in what was handed in", n+1)
		}
	}
}

// P2: two answers of the same call don't share memory, and what was handed in
// is not kept.
func TestP2NotKept(t *testing.T) {
	t.Parallel()
	lists := good(43)
	for name, call := range calls() {
		for k, l := range lists {
			other := lists[k/4*4]
			inA, _ := laid(l)
			inB, _ := laid(other)
			first, e := call(inA, inB)
			kept := slices.Clone(first)
			second, f := call(inA, inB)
			fill(inA, 1)
			fill(inB, 1)
			fill(second, 2)
			if e != f || !slices.Equal(first, kept) {
				t.Fatalf("%s of %v .. and %v ..: an answer is not its own memory", name, short(l), short(other))
			}
			if again, g := call(l, other); e != g || !slices.Equal(again, kept) {
				t.Fatalf("%s of %v .. and %v ..: %v .., and again %v ..", name, short(l), short(other), short(kept), short(again))
			}
		}
	}
}

// P2: one list for both, or lists that overlap, are no hindrance.
func TestP2ListsHandedInThatOverlap(t *testing.T) {
	t.Parallel()
	r := rand.New(rand.NewSource(44))
	l := thrown(r, maxPoints)
	were := slices.Clone(l)
	for n := 1; n <= 512; n += 1 + n/6 {
		for _, x := range [][2][]uint32{{l[:n], l[:n]}, {l[:n], l[n/2 : n+n/2+1]}, {l[n/3 : n/3+n], l[:n]}} {
			expectConv(t, x[0], x[1], product(x[0], x[1]))
		}
	}
	if !slices.Equal(l, were) {
		t.Error("what was handed in is changed")
	}
}

// P2: no list and an empty one are the same.
func TestP2NoListIsAnEmptyOne(t *testing.T) {
	t.Parallel()
	for name, call := range calls() {
		for _, l := range append(good(45), nil) {
			for _, empty := range [][]uint32{{}, make([]uint32, 0, 8), make([]uint32, 1024)[:0]} {
				_, e := call(nil, l)
				_, f := call(empty, l)
				_, g := call(l, nil)
				_, h := call(l, empty)
				if e != api.ErrLong || f != e || g != h {
					t.Fatalf("%s tells nil from empty: %v and %v, %v and %v", name, e, f, g, h)
				}
			}
		}
	}
}

// P3: the same calls answer the same, whatever was asked between, and though
// the first answer was written over.
func TestP3TheSameAgain(t *testing.T) {
	t.Parallel()
	lists, bad := good(46), strange()
	for name, call := range calls() {
		for k, a := range lists {
			b := lists[k/4*4]
			first, e := call(a, b)
			kept := slices.Clone(first)
			fill(first, 3)
			for _, between := range calls() {
				between(b, a)
				between(bad[k%len(bad)], a)
			}
			ntt.Pow(uint32(k), -k)
			if again, f := call(a, b); e != f || !slices.Equal(again, kept) {
				t.Fatalf("%s of %v .. and %v ..: %v .., and again %v ..", name, short(a), short(b), short(kept), short(again))
			}
		}
	}
}

// P3: an answer hangs on the numbers alone: not on where they stand, nor on
// the room behind them.
func TestP3OfTheseNumbersAlone(t *testing.T) {
	t.Parallel()
	for name, call := range calls() {
		for _, l := range good(47) {
			want, e := call(slices.Clip(slices.Clone(l)), []uint32{2, 3})
			in, _ := laid(l)
			two, _ := laid([]uint32{2, 3})
			if got, f := call(in, two); e != f || !slices.Equal(got, want) {
				t.Fatalf("%s of %v ..: %v and %v, by where it stands", name, short(l), e, f)
			}
		}
	}
}

// P4: beside an error there are no numbers; without one there are as many as
// promised, all remainders.
func TestP4NoNumbersBesideAnError(t *testing.T) {
	t.Parallel()
	lists := all(48)
	for name, call := range calls() {
		for _, a := range lists {
			for _, b := range lists {
				l, e := call(a, b)
				if e != api.OK && len(l) != 0 || e == api.OK && len(l) == 0 {
					t.Fatalf("%s of %v .. and %v ..: %d numbers beside %v", name, short(a), short(b), len(l), e)
				}
				if slices.ContainsFunc(l, func(v uint32) bool { return v >= prime }) {
					t.Fatalf("%s of %v .. and %v ..: what is no remainder", name, short(a), short(b))
				}
			}
		}
	}
}
