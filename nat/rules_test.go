package nat_test

import (
	"math"
	"math/rand"
	"slices"
	"strings"
	"testing"

	"anticline/api"
	"anticline/nat"
)

// answer is what one call answered: its lists and, of its other results, a
// number.
type answer struct {
	lists [][]uint32
	rest  uint64
}

// calls: each call of two lists and a number, under its name.
func calls() map[string]func(a, b []uint32, k int) answer {
	one := func(l []uint32) answer { return answer{lists: [][]uint32{l}} }
	return map[string]func(a, b []uint32, k int) answer{
		"Right": func(a, b []uint32, k int) answer {
			if nat.Right(a) {
				return answer{rest: 1}
			}
			return answer{}
		},
		"Small": func(a, b []uint32, k int) answer {
			v, _ := nat.Small(a)
			return answer{rest: v}
		},
		"Cmp":  func(a, b []uint32, k int) answer { return answer{rest: uint64(nat.Cmp(a, b))} },
		"Bits": func(a, b []uint32, k int) answer { return answer{rest: uint64(nat.Bits(a))} },
		"Add":  func(a, b []uint32, k int) answer { return one(nat.Add(a, b)) },
		"Mul":  func(a, b []uint32, k int) answer { return one(nat.Mul(a, b)) },
		"Gcd":  func(a, b []uint32, k int) answer { return one(nat.Gcd(a, b)) },
		"Shl":  func(a, b []uint32, k int) answer { return one(nat.Shl(a, k)) },
		"Shr":  func(a, b []uint32, k int) answer { return one(nat.Shr(a, k)) },
		"Sub": func(a, b []uint32, k int) answer {
			l, e := nat.Sub(a, b)
			return answer{[][]uint32{l}, uint64(e)}
		},
		"Div": func(a, b []uint32, k int) answer {
			q, r, e := nat.Div(a, b)
			return answer{[][]uint32{q, r}, uint64(e)}
		},
		"Text": func(a, b []uint32, k int) answer {
			return answer{rest: uint64(len(nat.Text(a)))}
		},
	}
}

// oddLists: right and wrong ones.
func oddLists() [][]uint32 {
	long := make([]uint32, 900)
	long[700] = 3
	return append(edges(), []uint32{}, []uint32{0}, []uint32{0, 0, 0}, []uint32{5, 0}, []uint32{0, 0, 7, 0, 0}, append(full(6), 0, 0), append(full(4), 1, 0), long, long[:701])
}

var oddShifts = []int{0, 1, 31, 32, 33, 64, 200, 1048576, 1048577, -1, math.MinInt, math.MaxInt}

// P1: whatever lists and numbers are given, wrong ones too, a call answers.
func TestP1NoCallPanics(t *testing.T) {
	for name, call := range calls() {
		for _, a := range oddLists() {
			for _, b := range oddLists() {
				call(a, b, 1)
			}
			for _, k := range oddShifts {
				call(a, a, k)
			}
		}
		t.Log(name)
	}
	for _, s := range []string{"", "\x00", "\xff\xfe", strings.Repeat("\xff", 400), strings.Repeat("0", 400), strings.Repeat("7", 1<<17)} {
		nat.Parse(s)
	}
	for _, v := range []uint64{0, 1, math.MaxUint64} {
		nat.Of(v)
	}
}

// spare puts a list into memory with room in front and behind, and hands out
// that memory, too.
func spare(a []uint32) (list, memory []uint32) {
	memory = slices.Repeat([]uint32{0xdeadbeef}, len(a)+16)
	list = memory[8 : 8+len(a)]
	copy(list, a)
	return list, memory
}

// spoil writes over a list and its spare room.
func spoil(l []uint32) {
	l = l[:cap(l)]
	for i := range l {
		l[i] ^= 0x5a5a5a5a
	}
}

// P2: what is handed in, its spare room too, stays, and no answer lies in it;
// no list of an answer lies in another one.
func TestP2Memory(t *testing.T) {
	for name, call := range calls() {
		for i, a := range oddLists() {
			for j, b := range oddLists() {
				k := oddShifts[(i+j)%7]
				tryMemory(t, name, call, a, b, k)
				tryMemory(t, name, call, a, b, -1)
			}
		}
	}
}

func tryMemory(t *testing.T, name string, call func(a, b []uint32, k int) answer, a, b []uint32, k int) {
	t.Helper()
	listA, memoryA := spare(a)
	listB, memoryB := spare(b)
	wasA, wasB := slices.Clone(memoryA), slices.Clone(memoryB)
	got := call(listA, listB, k)
	for i, l := range got.lists {
		others := make([][]uint32, len(got.lists))
		for j := range got.lists {
			others[j] = slices.Clone(got.lists[j])
		}
		spoil(l)
		for j := range got.lists {
			if i != j && !slices.Equal(got.lists[j], others[j]) {
				t.Fatalf("%s(%v, %v, %d): two lists of the answer share memory", name, a, b, k)
			}
		}
	}
	if !slices.Equal(memoryA, wasA) || !slices.Equal(memoryB, wasB) {
		t.Fatalf("%s(%v, %v, %d): what was handed in is changed, or the answer lies in it", name, a, b, k)
	}
}

// P2: lists that lie in one another, handed in together, are no hindrance.
func TestP2ListsHandedInThatOverlap(t *testing.T) {
	memory := long(rand.New(rand.NewSource(2)), 40)
	was := slices.Clone(memory)
	a, b := memory[:30], memory[20:]
	apartA, apartB := slices.Clone(a), slices.Clone(b)
	for name, call := range calls() {
		for _, x := range [][4][]uint32{{a, b, apartA, apartB}, {b, a, apartB, apartA}, {a, a, apartA, slices.Clone(a)}} {
			got, want := call(x[0], x[1], 7), call(x[2], x[3], 7)
			if !sameAnswer(got, want) {
				t.Errorf("%s: %v, %v", name, got, want)
			}
		}
		if !slices.Equal(memory, was) {
			t.Fatalf("%s changes what is handed in", name)
		}
	}
}

func sameAnswer(x, y answer) bool {
	return x.rest == y.rest && slices.EqualFunc(x.lists, y.lists, slices.Equal)
}

// P2: no list and an empty one are the same, handed in.
func TestP2NoListIsAnEmptyOne(t *testing.T) {
	for name, call := range calls() {
		for _, a := range edges() {
			if !sameAnswer(call(nil, a, 3), call([]uint32{}, a, 3)) || !sameAnswer(call(a, nil, 3), call(a, []uint32{}, 3)) {
				t.Errorf("%s tells nil from empty beside %v", name, a)
			}
		}
	}
}

// P3, P7: the same call answers the same, in memory of its own, even when the
// first answer was written over.
func TestP3TheSameAgain(t *testing.T) {
	r := rand.New(rand.NewSource(3))
	for name, call := range calls() {
		for range 100 {
			a, b, k := thrown(r, 8), thrown(r, 6), r.Intn(200)
			first := call(a, b, k)
			var was [][]uint32
			for _, l := range first.lists {
				was = append(was, slices.Clone(l))
			}
			for _, l := range first.lists {
				spoil(l)
			}
			if again := call(a, b, k); !sameAnswer(again, answer{was, first.rest}) {
				t.Fatalf("%s(%v, %v, %d): %v, then %v", name, a, b, k, was, again)
			}
		}
	}
	one, _ := nat.Parse("123456789012345678901234567890")
	spoil(one)
	if two, _ := nat.Parse("123456789012345678901234567890"); nat.Text(two) != "123456789012345678901234567890" {
		t.Error("Parse keeps what it answered")
	}
	spoil(nat.Of(5))
	if v, _ := nat.Small(nat.Of(5)); v != 5 {
		t.Error("Of keeps what it answered")
	}
}

// P4: beside an error, or a false, there is nothing.
func TestP4ZeroValuesBesideErrors(t *testing.T) {
	for _, a := range edges() {
		if q, r, e := nat.Div(a, nil); e != api.ErrZero || len(q)+len(r) != 0 {
			t.Errorf("Div: %v, %v, %v", q, r, e)
		}
		if l, e := nat.Sub(a, nat.Add(a, nat.Of(1))); e != api.ErrArg || len(l) != 0 {
			t.Errorf("Sub: %v, %v", l, e)
		}
		if v, is := nat.Small(nat.Shl(nat.Add(a, nat.Of(1)), 64)); v != 0 || is {
			t.Errorf("Small: %v, %v", v, is)
		}
	}
	for _, s := range []string{"12x", "012", strings.Repeat("1", 401)} {
		if l, e := nat.Parse(s); e == api.OK || len(l) != 0 {
			t.Errorf("Parse: %v, %v", l, e)
		}
	}
}

// P6: of a text that is too long and no number the length is told.
func TestP6FirstErrorOfParse(t *testing.T) {
	if _, e := nat.Parse(strings.Repeat("x", 401)); e != api.ErrLong {
		t.Error(e)
	}
	if _, e := nat.Parse(strings.Repeat("x", 400)); e != api.ErrForm {
		t.Error(e)
	}
}
