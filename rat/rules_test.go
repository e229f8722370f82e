package rat_test

import (
	"math"
	"math/rand"
	"slices"
	"strings"
	"testing"

	"anticline/api"
	"anticline/rat"
)

// answer is what one call answered: its number, if any, and of its other
// results a text.
type answer struct {
	number api.Rat
	rest   string
}

func (x answer) like(y answer) bool {
	return x.rest == y.rest && equal(x.number, y.number)
}

func yes(is bool) string {
	if is {
		return "yes"
	}
	return "no"
}

// calls: each call that is handed lists, under its name.
func calls() map[string]func(a, b api.Rat) answer {
	one := func(f func(a api.Rat) api.Rat) func(a, b api.Rat) answer {
		return func(a, _ api.Rat) answer { return answer{number: f(a)} }
	}
	two := func(f func(a, b api.Rat) api.Rat) func(a, b api.Rat) answer {
		return func(a, b api.Rat) answer { return answer{number: f(a, b)} }
	}
	return map[string]func(a, b api.Rat) answer{
		"Make": func(a, b api.Rat) answer {
			v, e := rat.Make(a.Neg, a.N, a.D)
			return answer{v, e.Error()}
		},
		"Make of two": func(a, b api.Rat) answer {
			v, e := rat.Make(b.Neg, a.N, b.N)
			return answer{v, e.Error()}
		},
		"Right": func(a, b api.Rat) answer { return answer{rest: yes(rat.Right(a))} },
		"Same":  func(a, b api.Rat) answer { return answer{rest: yes(rat.Same(a, b))} },
		"Cmp":   func(a, b api.Rat) answer { return answer{rest: string(rune('1' + rat.Cmp(a, b)))} },
		"Neg":   one(rat.Neg),
		"Abs":   one(rat.Abs),
		"Add":   two(rat.Add),
		"Sub":   two(rat.Sub),
		"Mul":   two(rat.Mul),
		"Quo": func(a, b api.Rat) answer {
			v, e := rat.Quo(a, b)
			return answer{v, e.Error()}
		},
		"Text": func(a, b api.Rat) answer { return answer{rest: rat.Text(a)} },
	}
}

// some: numbers that are right, and such as are not.
func some() []api.Rat {
	few := edges()
	var l []api.Rat
	for i := 0; i < len(few); i += 11 {
		l = append(l, few[i])
	}
	for _, a := range wrong() {
		l = append(l, a)
	}
	r := rand.New(rand.NewSource(1))
	noughts := make([]uint32, 300)
	return append(l, few[len(few)/2], long(r, 40), long(r, 300), api.Rat{Neg: true, N: noughts, D: noughts}, api.Rat{N: long(r, 20).N, D: append(long(r, 200).D, 0, 0)})
}

// P1: whatever is given, wrong numbers too, a call answers.
func TestP1NoCallPanics(t *testing.T) {
	numbers := some()
	for name, call := range calls() {
		for _, a := range numbers {
			for _, b := range numbers {
				call(a, b)
			}
		}
		t.Log(name)
	}
	for _, n := range []int{math.MinInt, -1, 0, 1, math.MaxInt} {
		for _, d := range []int{math.MinInt, -1, 0, 1, math.MaxInt} {
			rat.Of(n, d)
		}
	}
	for _, s := range []string{"", "-", "/", "\x00", "\xff\xfe", strings.Repeat("\xff", 400), strings.Repeat("/", 1<<16), strings.Repeat("-", 1<<16), strings.Repeat("7", 1<<17), strings.Repeat("7", 1<<15) + "/" + strings.Repeat("7", 1<<15)} {
		rat.Parse(s)
	}
}

// spare puts a's lists into memory with room in front and behind, and hands
// out that memory, too.
func spare(a api.Rat) (b api.Rat, memory []uint32) {
	const gap = 8
	memory = slices.Repeat([]uint32{0xdeadbeef}, len(a.N)+len(a.D)+3*gap)
	n := memory[gap : gap+len(a.N)]
	d := memory[len(a.N)+2*gap : len(a.N)+2*gap+len(a.D)]
	copy(n, a.N)
	copy(d, a.D)
	return api.Rat{Neg: a.Neg, N: n, D: d}, memory
}

// spoil writes over a list and its spare room.
func spoil(l []uint32) {
	l = l[:cap(l)]
	for i := range l {
		l[i] ^= 0x5a5a5a5a
	}
}

// P2: what is handed in, its spare room too, stays, and no answer lies in it;
// the two lists of an answer don't lie in each other.
func TestP2Memory(t *testing.T) {
	numbers := some()
	for name, call := range calls() {
		for _, a := range numbers {
			for _, b := range numbers {
				inA, memoryA := spare(a)
				inB, memoryB := spare(b)
				wasA, wasB := slices.Clone(memoryA), slices.Clone(memoryB)
				got := call(inA, inB).number
				if shared(got) {
					t.Fatalf("%s(%v, %v): two lists of the answer share memory", name, a, b)
				}
				if !slices.Equal(memoryA, wasA) || !slices.Equal(memoryB, wasB) {
					t.Fatalf("%s(%v, %v): what was handed in is changed, or the answer lies in it", name, a, b)
				}
			}
		}
	}
}

// shared writes over both lists, and tells whether one was in the other.
func shared(a api.Rat) bool {
	n := slices.Clone(a.N[:cap(a.N)])
	spoil(a.D)
	if !slices.Equal(n, a.N[:cap(a.N)]) {
		return true
	}
	d := slices.Clone(a.D[:cap(a.D)])
	spoil(a.N)
	return !slices.Equal(d, a.D[:cap(a.D)])
}

// P2: what Of and Parse answer.
func TestP2AnswersOfNumbersAndTexts(t *testing.T) {
	for _, n := range []int{0, 1, -1, 6, math.MinInt} {
		for _, d := range []int{1, -1, 6, math.MinInt} {
			if a, _ := rat.Of(n, d); shared(a) {
				t.Errorf("Of(%d, %d)", n, d)
			}
		}
	}
	for _, s := range []string{"0", "-0/7", "1", "1/1", "5/5", "-7/9", "123456789012345678901/123456789012345678901"} {
		if a, _ := rat.Parse(s); shared(a) {
			t.Errorf("Parse(%s)", s)
		}
	}
}

// P2: lists that lie in one another, handed in together, are no hindrance.
func TestP2ListsHandedInThatOverlap(t *testing.T) {
	r := rand.New(rand.NewSource(2))
	memory := long(r, 40).N
	was := slices.Clone(memory)
	a := api.Rat{N: memory[:30], D: memory[10:35]}
	b := api.Rat{Neg: true, N: memory[5:30], D: memory[:30]}
	apart := func(a api.Rat) api.Rat {
		return api.Rat{Neg: a.Neg, N: slices.Clone(a.N), D: slices.Clone(a.D)}
	}
	for name, call := range calls() {
		if !call(a, b).like(call(apart(a), apart(b))) || !call(b, a).like(call(apart(b), apart(a))) || !call(a, a).like(call(apart(a), apart(a))) {
			t.Errorf("%s answers otherwise where lists overlap", name)
		}
		if !slices.Equal(memory, was) {
			t.Fatalf("%s changes what is handed in", name)
		}
	}
}

// P2: no list and an empty one are the same.
func TestP2NoListIsAnEmptyOne(t *testing.T) {
	none, empty := api.Rat{D: []uint32{1}}, api.Rat{N: []uint32{}, D: []uint32{1}}
	for name, call := range calls() {
		for _, a := range edges() {
			if !call(none, a).like(call(empty, a)) || !call(a, none).like(call(a, empty)) {
				t.Errorf("%s tells nil from empty beside %v", name, a)
			}
		}
	}
	if !rat.Same(none, empty) || !rat.Same(empty, none) || rat.Cmp(none, empty) != 0 {
		t.Error("nought, with no list and with an empty one, is not the same")
	}
}

// P3, P7: the same call answers the same, even when the first answer was
// written over.
func TestP3TheSameAgain(t *testing.T) {
	r := rand.New(rand.NewSource(3))
	for name, call := range calls() {
		for range 100 {
			a, b := thrown(r, 6), thrown(r, 5)
			first := call(a, b)
			was := answer{api.Rat{Neg: first.number.Neg, N: slices.Clone(first.number.N), D: slices.Clone(first.number.D)}, first.rest}
			spoil(first.number.N)
			spoil(first.number.D)
			if again := call(a, b); !again.like(was) {
				t.Fatalf("%s(%v, %v): %v, then %v", name, a, b, was, again)
			}
		}
	}
	for range 2 {
		a, _ := rat.Of(6, -4)
		b, _ := rat.Parse("0/7")
		if rat.Text(a) != "-3/2" || rat.Text(b) != "0" {
			t.Error("Of or Parse keeps what it answered")
		}
		spoil(a.N)
		spoil(a.D)
		spoil(b.D)
	}
}

// P4: beside an error there is nothing, not even a sign.
func TestP4ZeroValuesBesideErrors(t *testing.T) {
	for _, a := range edges() {
		q, e := rat.Quo(a, api.Rat{D: []uint32{1}})
		refused(t, "Quo", q, e)
		for _, neg := range []bool{false, true} {
			v, e := rat.Make(neg, a.N, nil)
			refused(t, "Make", v, e)
		}
	}
	for _, n := range []int{math.MinInt, -1, 0, 1, math.MaxInt} {
		v, e := rat.Of(n, 0)
		refused(t, "Of", v, e)
	}
	for _, s := range []string{"-", "-1/2/3", "-12x", "-1/02", "-1/0", "-" + nines(401), "-1/" + nines(401)} {
		if v, e := rat.Parse(s); e == api.OK || !isZero(v) {
			t.Errorf("Parse(%q): %v, %v", s, v, e)
		}
	}
}

// P6: the errors of Parse, each ahead of those behind it.
func TestP6FirstErrorOfParse(t *testing.T) {
	refuses(t, api.ErrForm, nines(401)+"/0/"+nines(401)) // of the strokes
	refuses(t, api.ErrLong, nines(401)+"/x", nines(401)+"/0")
	refuses(t, api.ErrForm, "x/"+nines(401), "x/0")
	refuses(t, api.ErrZero, "0/0")
}
