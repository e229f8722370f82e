package gen_test

import (
	"math"
	"math/rand"
	"slices"
	"testing"

	"anticline/api"
)

func TestP501Allowed(t *testing.T) {
	for seed := range int64(10) {
		for _, g := range allowed(seed) {
			expectCheck(t, g, api.OK)
		}
	}
}

// All else is as a kind that is one would have it.
func TestP501Kind(t *testing.T) {
	for _, g := range allowed(1) {
		for _, kind := range []int{math.MinInt, -7, -1, 0, 8, 9, 1 << 32, math.MaxInt} {
			bad := g
			bad.Kind = kind
			expectCheck(t, bad, api.ErrKind)
		}
	}
	expectCheck(t, api.Gen{}, api.ErrKind)
}

// The rows are as many as that N would ask for, where there can be so many.
func TestP501Size(t *testing.T) {
	r := rand.New(rand.NewSource(2))
	for _, kind := range kinds() {
		for _, rank := range ranks(kind) {
			for _, n := range []int{1, 8} {
				expectCheck(t, told(r, kind, n, rank), api.OK)
			}
			for _, n := range []int{9, 10, 16} {
				expectCheck(t, told(r, kind, n, rank), api.ErrArg)
			}
			for _, n := range []int{math.MinInt, -8, -1, 0, 1<<32 + 1, math.MaxInt} {
				expectCheck(t, api.Gen{Kind: kind, N: n, R: rank}, api.ErrArg)
				bad := told(r, kind, 1, rank)
				bad.N = n
				expectCheck(t, bad, api.ErrArg)
			}
		}
	}
}

func TestP501Rank(t *testing.T) {
	r := rand.New(rand.NewSource(3))
	for _, kind := range kinds() {
		may := ranks(kind)
		for _, rank := range []int{0, 1, 2, 3, 4, 5} {
			want := api.ErrArg
			if slices.Contains(may, rank) {
				want = api.OK
			}
			expectCheck(t, told(r, kind, 2, rank), want)
		}
		for _, rank := range []int{math.MinInt, -3, -1, 4, 1<<32 + 1, math.MaxInt} {
			g := told(r, kind, 2, may[0])
			g.R = rank
			expectCheck(t, g, api.ErrArg)
		}
	}
}

// Each row by itself: one too short, one too long, none where there are some,
// some where there are none.
func TestP501Lengths(t *testing.T) {
	r := rand.New(rand.NewSource(4))
	for _, g := range allowed(4) {
		for place := range rowNames {
			was := *row(&g, place)
			others := [][]api.Rat{append(slices.Clone(was), thrown(r))}
			if len(was) == 0 {
				others = append(others, thrownRow(r, g.N), thrownRow(r, 2*g.N-1))
			} else {
				others = append(others, nil, []api.Rat{}, was[1:], was[:len(was)-1], append(was, was...))
			}
			for _, other := range others {
				bad := g
				*row(&bad, place) = other
				expectCheck(t, bad, api.ErrLong)
			}
		}
	}
}

// What one row lacks another one doesn't make good.
func TestP501LengthsOfTwoRows(t *testing.T) {
	r := rand.New(rand.NewSource(5))
	for _, kind := range []int{api.Cauchy, api.ToepGen, api.CauGen} {
		for _, rank := range ranks(kind) {
			g := told(r, kind, 4, rank)
			first, second := &g.A, &g.B
			if kind != api.Cauchy {
				first, second = &g.G, &g.H
			}
			*first, *second = append(*first, (*second)[0]), (*second)[1:]
			expectCheck(t, g, api.ErrLong)
		}
	}
	expectCheck(t, api.Gen{Kind: api.Toep, N: 2, B: ints(1, 2, 3)}, api.ErrLong)
	expectCheck(t, api.Gen{Kind: api.ToepGen, N: 2, R: 1, A: ints(1, 2), B: ints(3, 4)}, api.ErrLong)
}

func TestP501NoRowIsAnEmptyOne(t *testing.T) {
	for _, g := range allowed(6) {
		for place := range rowNames {
			if l := row(&g, place); len(*l) == 0 {
				*l = []api.Rat{}
			}
		}
		expectCheck(t, g, api.OK)
	}
}

// put puts a number at each place of each row by turns.
func put(g api.Gen, a api.Rat, then func(g api.Gen)) {
	for place := range rowNames {
		for k := range *row(&g, place) {
			then(changed(g, place, k, a))
		}
	}
}

func TestP501Numbers(t *testing.T) {
	r := rand.New(rand.NewSource(7))
	bad := append(wrong(), tooLong()...)
	for _, kind := range kinds() {
		for _, rank := range ranks(kind) {
			for _, n := range []int{1, 3, 8} {
				g := told(r, kind, n, rank)
				for _, a := range bad {
					put(g, a, func(g api.Gen) { expectCheck(t, g, api.ErrArg) })
				}
			}
		}
	}
}

func TestP501NumbersOfFourLimbs(t *testing.T) {
	for _, g := range allowed(8) {
		for _, a := range longest() {
			put(g, a, func(h api.Gen) {
				if !met(h) {
					expectCheck(t, h, api.OK)
				}
			})
		}
	}
}

// met tells by math/big whether an A is as a B.
func met(g api.Gen) bool {
	for _, a := range g.A {
		for _, b := range g.B {
			if bigOf(a).Cmp(bigOf(b)) == 0 {
				return true
			}
		}
	}
	return false
}

func TestP501Meet(t *testing.T) {
	r := rand.New(rand.NewSource(9))
	few := append(longest(), ints(0, 1, -1)...)
	few = append(few, fraction(-22, 7), thrown(r), thrown(r))
	for _, kind := range []int{api.Cauchy, api.CauGen} {
		for _, rank := range ranks(kind) {
			for _, n := range []int{1, 2, 8} {
				g := told(r, kind, n, rank)
				for i := range n {
					for j := range n {
						a := few[r.Intn(len(few))]
						bad := changed(changed(g, 0, i, a), 1, j, copied(api.Gen{A: []api.Rat{a}}).A[0])
						expectCheck(t, bad, api.ErrZero)
					}
				}
			}
		}
	}
}

func TestP501MeetAtNoughtWithNoListAndAnEmptyOne(t *testing.T) {
	none, empty := api.Rat{D: []uint32{1}}, api.Rat{N: []uint32{}, D: []uint32{1}}
	expectCheck(t, api.Gen{Kind: api.Cauchy, N: 1, A: []api.Rat{none}, B: []api.Rat{empty}}, api.ErrZero)
	expectCheck(t, api.Gen{Kind: api.Cauchy, N: 1, A: []api.Rat{empty}, B: []api.Rat{none}}, api.ErrZero)
}

// Numbers that are alike but for one thing are not the same.
func TestP501Near(t *testing.T) {
	few := []api.Rat{
		fraction(2, 3), fraction(-2, 3), fraction(3, 2), fraction(-3, 2), fraction(2, 1), fraction(3, 1), fraction(0, 1), fraction(1, 1), fraction(-1, 1),
		{N: []uint32{0, 2}, D: []uint32{3}}, {N: []uint32{2}, D: []uint32{1, 3}}, {N: []uint32{2}, D: []uint32{3, 1}}, {N: []uint32{2, 3}, D: []uint32{1}},
	}
	long := api.Rat{N: []uint32{1, 1, 1, 1}, D: []uint32{2, 1, 1, 1}}
	few = append(few, long)
	for k := range 4 {
		n, d := slices.Clone(long.N), slices.Clone(long.D)
		n[k] = 1 << 31
		d[k] = 1 << 30
		few = append(few, given(bigOf(api.Rat{N: n, D: long.D})), given(bigOf(api.Rat{N: long.N, D: d})))
	}
	for i, a := range few {
		for j, b := range few {
			want := api.OK
			if i == j {
				want = api.ErrZero
			}
			expectCheck(t, api.Gen{Kind: api.Cauchy, N: 1, A: []api.Rat{a}, B: []api.Rat{b}}, want)
			expectCheck(t, api.Gen{Kind: api.CauGen, N: 1, R: 1, A: []api.Rat{a}, B: []api.Rat{b}, G: []api.Rat{a}, H: []api.Rat{b}}, want)
		}
	}
}

// Only an A as a B is refused: not two of one row, and no other rows.
func TestP501AlikeElsewhere(t *testing.T) {
	expectCheck(t, api.Gen{Kind: api.Toep, N: 2, A: ints(1, 1, 1)}, api.OK)
	expectCheck(t, api.Gen{Kind: api.Vand, N: 3, A: ints(5, 5, 5)}, api.OK)
	expectCheck(t, api.Gen{Kind: api.Cauchy, N: 3, A: ints(1, 1, 1), B: ints(2, 2, 2)}, api.OK)
	expectCheck(t, api.Gen{Kind: api.ToepGen, N: 2, R: 1, G: ints(1, 1), H: ints(1, 1)}, api.OK)
	expectCheck(t, api.Gen{Kind: api.CauGen, N: 2, R: 1, A: ints(1, 1), B: ints(2, 2), G: ints(2, 1), H: ints(2, 1)}, api.OK)
}

// fault spoils a Gen of three rows and columns that has an A and a B.
type fault struct {
	want api.Errno
	make func(g *api.Gen)
}

// faults: some of each stage of P501, in their order. They may come together,
// as none undoes another.
func faults() [][]fault {
	number := func(place int, a api.Rat) fault {
		return fault{api.ErrArg, func(g *api.Gen) {
			if len(*row(g, place)) == 0 {
				place = 0
			}
			(*row(g, place))[0] = a
		}}
	}
	longer := func(place int) fault {
		return fault{api.ErrLong, func(g *api.Gen) { *row(g, place) = append(*row(g, place), fraction(77, 1)) }}
	}
	return [][]fault{
		{{api.ErrKind, func(g *api.Gen) { g.Kind = 0 }}, {api.ErrKind, func(g *api.Gen) { g.Kind = 8 }}},
		{
			{api.ErrArg, func(g *api.Gen) { g.N = 0 }}, {api.ErrArg, func(g *api.Gen) { g.N = 9 }},
			{api.ErrArg, func(g *api.Gen) { g.R = 4 }}, {api.ErrArg, func(g *api.Gen) { g.R = -1 }},
		},
		{longer(0), longer(1), longer(2), longer(3), {api.ErrLong, func(g *api.Gen) { g.B = g.B[:2] }}},
		{
			number(0, wrong()[0]), number(1, tooLong()[0]), number(3, tooLong()[1]),
			number(2, api.Rat{N: []uint32{4}, D: []uint32{2}}), number(1, api.Rat{Neg: true, D: []uint32{1}}),
		},
		{{api.ErrZero, func(g *api.Gen) { g.A[1] = g.B[1] }}},
	}
}

func TestP501Order(t *testing.T) {
	all := faults()
	for earlier, stage := range all {
		for _, first := range stage {
			for _, later := range all[earlier+1:] {
				for _, second := range later {
					expectFirst(t, first, second)
				}
			}
		}
	}
}

func expectFirst(t *testing.T, first, second fault) {
	t.Helper()
	for _, g := range []api.Gen{
		{Kind: api.Cauchy, N: 3, A: ints(1, 2, 3), B: ints(4, 5, 6)},
		{Kind: api.CauGen, N: 3, R: 1, A: ints(1, 2, 3), B: ints(4, 5, 6), G: ints(7, 8, 9), H: ints(1, 2, 3)},
	} {
		expectCheck(t, g, api.OK)
		second.make(&g)
		expectCheck(t, g, second.want)
		first.make(&g)
		expectCheck(t, g, first.want)
	}
}
