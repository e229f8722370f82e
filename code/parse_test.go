package code_test

import (
	"bytes"
	"math/rand"
	"slices"
	"testing"

	"anticline/api"
	"anticline/rat"
)

// The example.
func TestP601ParseOfNothing(t *testing.T) {
	expectError(t, nil, api.ErrCut)
	expectError(t, []byte{}, api.ErrCut)
}

func TestP601ParseByHand(t *testing.T) {
	for text, g := range byHand() {
		expectParse(t, []byte(text), g)
	}
}

func TestP601Parse(t *testing.T) {
	for seed := range int64(10) {
		for _, g := range allowed(20 + seed) {
			expectParse(t, written(g), g)
		}
	}
}

// Wherever bytes end too early: ahead of a field and within one.
func TestP601Cut(t *testing.T) {
	for _, g := range allowed(30) {
		b := written(g)
		for n := range b {
			expectError(t, b[:n], api.ErrCut)
		}
	}
}

func TestP601More(t *testing.T) {
	for _, g := range allowed(31) {
		b := written(g)
		for _, more := range [][]byte{{0}, {1}, {255}, {0, 0, 0, 0}, make([]byte, 1000), b} {
			expectError(t, append(bytes.Clone(b), more...), api.ErrMore)
		}
	}
}

// headError is what P501 says of Kind, N and R.
func headError(kind, n, rank int) api.Errno {
	switch {
	case kind < 1 || kind > 7:
		return api.ErrKind
	case n < 1 || n > 8 || !slices.Contains(ranks(kind), rank):
		return api.ErrArg
	}
	return api.OK
}

// Kind, N, R are told of as soon as they are read: whether bytes lack behind
// them, or what there is were nothing that may be.
func TestP601Head(t *testing.T) {
	few := []int{0, 1, 2, 3, 4, 5, 6, 7, 8, 9, 10, 15, 16, 127, 128, 254, 255}
	for kind := range 256 {
		for _, n := range few {
			for _, rank := range few {
				head := []byte{byte(kind), byte(n), byte(rank)}
				alone, bad := headError(kind, n, rank), headError(kind, n, rank)
				if alone == api.OK {
					alone, bad = api.ErrCut, api.ErrArg
				}
				expectError(t, head, alone)
				expectError(t, append(head, 2), bad)
				expectError(t, append(head, bytes.Repeat([]byte{255}, 100)...), bad)
			}
		}
	}
}

// All but one of Kind, N, R are as they may be, and so are the numbers.
func TestP601HeadAheadOfNumbers(t *testing.T) {
	for _, g := range allowed(32) {
		b := written(g)
		for at, few := range [][]byte{{0, 8, 9, 255}, {0, 9, 10, 255}, {4, 5, 255, byte(3 - 3*min(g.R, 1))}} {
			for _, bad := range few {
				changed := bytes.Clone(b)
				changed[at] = bad
				want := api.ErrArg
				if at == 0 {
					want = api.ErrKind
				}
				expectError(t, changed, want)
				expectError(t, changed[:3], want)
				expectError(t, append(changed, 0), want)
			}
		}
	}
}

// expectAsSoon puts a byte where it may not be, with all behind it, with none
// behind it, with many more, and with what may not be behind it.
func expectAsSoon(t *testing.T, b []byte, at int, bad byte) {
	t.Helper()
	changed := bytes.Clone(b)
	changed[at] = bad
	expectError(t, changed, api.ErrArg)
	expectError(t, changed[:at+1], api.ErrArg)
	expectError(t, changed[:(at+1+len(b))/2], api.ErrArg)
	expectError(t, append(changed[:len(b):len(b)], 0, 0, 0), api.ErrArg)
	expectError(t, append(changed[:at+1:at+1], bytes.Repeat([]byte{255}, 1000)...), api.ErrArg)
}

func TestP601Neg(t *testing.T) {
	for _, g := range allowed(33) {
		b, fields := laidOut(g)
		for _, f := range fields {
			if f.name == "neg" {
				for _, bad := range []byte{2, 3, 128, 129, 254, 255} {
					expectAsSoon(t, b, f.at, bad)
				}
			}
		}
	}
}

func TestP601Count(t *testing.T) {
	for _, g := range allowed(34) {
		b, fields := laidOut(g)
		for _, f := range fields {
			if f.name == "count" {
				for _, bad := range []byte{5, 6, 8, 127, 128, 132, 255} {
					expectAsSoon(t, b, f.at, bad)
				}
			}
		}
	}
}

// Every byte that may stand in the place of a Neg or a count, with nothing
// behind it.
func TestP601EveryNegAndCount(t *testing.T) {
	for v := range 256 {
		for _, x := range []struct {
			ahead []byte
			most  int
		}{
			{[]byte{3, 1, 0}, 1}, {[]byte{3, 1, 0, 1}, 4}, {[]byte{3, 1, 0, 0, 1, 7, 0, 0, 0}, 4},
			{[]byte{3, 2, 0, 0, 0, 1, 1, 0, 0, 0}, 1}, {[]byte{3, 2, 0, 0, 0, 1, 1, 0, 0, 0, 0}, 4},
		} {
			want := api.ErrCut
			if v > x.most {
				want = api.ErrArg
			}
			if len(x.ahead) == 9 && v == 0 { // nothing lacks: a number without D
				want = api.ErrArg
			}
			expectError(t, append(x.ahead, byte(v)), want)
		}
	}
}

// Numbers that are not right are gen.Check's errors: told when all is read,
// behind what the bytes themselves lack or have left.
func TestP601NumbersNotRight(t *testing.T) {
	r := rand.New(rand.NewSource(35))
	for _, bad := range wrong() {
		for _, g := range append(oneNumberEach(bad), spoilt(r, bad)...) {
			b := written(g)
			expectError(t, b, api.ErrArg)
			expectError(t, append(b, 0), api.ErrMore)
			expectError(t, append(b, b...), api.ErrMore)
			expectError(t, b[:len(b)-1], api.ErrCut)
		}
	}
}

// spoilt: Gens of each kind, with what is not right at the first place of a
// row, and at the last one.
func spoilt(r *rand.Rand, bad api.Rat) []api.Gen {
	var l []api.Gen
	for _, g := range allowed(r.Int63()) {
		for place := range 4 {
			if many := len(*row(&g, place)); many > 0 {
				l = append(l, changed(g, place, 0, bad), changed(g, place, many-1, bad))
			}
		}
	}
	return l
}

// What is not right at the first number waits for all that is behind it.
func TestP601NumbersNotRightAheadOfOtherFaults(t *testing.T) {
	first := []byte{3, 2, 0, 0, 0, 0}
	expectError(t, append(first[:6:6], 0, 0, 1, 1, 0, 0, 0), api.ErrArg)
	expectError(t, first, api.ErrCut)
	expectError(t, append(first[:6:6], 0, 0), api.ErrCut)
	expectError(t, append(first[:6:6], 0, 0, 1, 1, 0, 0, 0, 0), api.ErrMore)
}

func TestP601Meet(t *testing.T) {
	r := rand.New(rand.NewSource(36))
	few := append(longest(), number(0, 1), number(-1, 1), number(22, 7), thrown(r))
	for _, kind := range []int{api.Cauchy, api.CauGen} {
		for _, n := range []int{1, 2, 8} {
			for _, a := range few {
				i, j := r.Intn(n), r.Intn(n)
				g := told(r, kind, n, ranks(kind)[0])
				b := written(changed(changed(g, 0, i, a), 1, j, a))
				expectError(t, b, api.ErrZero)
				expectError(t, append(b, 0), api.ErrMore)
				expectError(t, b[:len(b)-1], api.ErrCut)
			}
		}
	}
}

// gen.Check's errors come in its own order.
func TestP601MeetAndNotRight(t *testing.T) {
	r := rand.New(rand.NewSource(37))
	for _, bad := range wrong() {
		g := told(r, api.CauGen, 2, 2)
		g.A[1] = g.B[0]
		expectError(t, written(g), api.ErrZero)
		for place, k := range []int{0, 1, 3, 0} {
			expectError(t, written(changed(g, place, k, bad)), api.ErrArg)
		}
		expectError(t, written(changed(changed(g, 0, 0, bad), 1, 1, bad)), api.ErrArg)
	}
}

// Alike elsewhere than in A and B, or but for one thing, is no fault.
func TestP601AlikeElsewhere(t *testing.T) {
	a, b := number(3, 4), number(-3, 4)
	for _, g := range []api.Gen{
		{Kind: api.Toep, N: 2, A: []api.Rat{a, a, a}}, {Kind: api.Vand, N: 2, A: []api.Rat{a, a}},
		{Kind: api.ToepGen, N: 1, R: 2, G: []api.Rat{a, a}, H: []api.Rat{a, a}},
		{Kind: api.Cauchy, N: 2, A: []api.Rat{a, a}, B: []api.Rat{b, b}},
		{Kind: api.CauGen, N: 1, R: 1, A: []api.Rat{a}, B: []api.Rat{b}, G: []api.Rat{b}, H: []api.Rat{a}},
	} {
		expectParse(t, written(g), g)
	}
}

// Two errors that are told as they are read: the one that is read first.
func TestP601Order(t *testing.T) {
	for _, g := range allowed(38) {
		b, fields := laidOut(g)
		for k, f := range fields {
			if f.name != "neg" && f.name != "count" {
				continue
			}
			changed := bytes.Clone(b)
			changed[f.at] = 255
			for _, n := range []int{0, 3, f.at/2 + 1, f.at} {
				expectError(t, changed[:n], api.ErrCut)
			}
			expectError(t, changed[:f.at+1], api.ErrArg)
			changed[0] = byte(8 + k%200)
			expectError(t, changed, api.ErrKind)
			changed[0], changed[1] = b[0], 9
			expectError(t, changed, api.ErrArg)
		}
	}
}

// N of 5 limbs can't be told, be they noughts on top or not.
func TestP601FiveLimbs(t *testing.T) {
	for _, limbs := range [][]uint32{{1, 2, 3, 4, 5}, {1, 0, 0, 0, 0}} {
		above, below := api.Rat{N: limbs, D: []uint32{1}}, api.Rat{N: []uint32{1}, D: limbs}
		for _, a := range []api.Rat{above, below} {
			for _, g := range oneNumberEach(a) {
				expectError(t, written(g), api.ErrArg)
				expectError(t, append(written(g), 0), api.ErrArg)
			}
		}
	}
	if !rat.Right(api.Rat{N: []uint32{1, 2, 3, 4, 5}, D: []uint32{1}}) {
		t.Error("the number itself should be right")
	}
}
