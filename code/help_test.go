package code_test

import (
	"encoding/binary"
	"math/rand"
	"slices"
	"testing"

	"anticline/api"
	"anticline/code"
	"anticline/rat"
)

const top = 1<<32 - 1 // the greatest limb

func kinds() []int {
	return []int{api.Toep, api.Hank, api.Circ, api.Vand, api.Cauchy, api.ToepGen, api.CauGen}
}

// ranks: the R that a kind may have.
func ranks(kind int) []int {
	if kind == api.ToepGen || kind == api.CauGen {
		return []int{1, 2, 3}
	}
	return []int{0}
}

// shape is how many numbers each of A, B, G, H has, by chapter 5's table.
func shape(kind, n, rank int) [4]int {
	return map[int][4]int{
		api.Toep: {2*n - 1}, api.Hank: {2*n - 1}, api.Circ: {n}, api.Vand: {n}, api.Cauchy: {n, n},
		api.ToepGen: {0, 0, n * rank, n * rank}, api.CauGen: {n, n, n * rank, n * rank},
	}[kind]
}

// row hands out a row of a Gen by its place, so that it can be changed.
func row(g *api.Gen, place int) *[]api.Rat {
	return []*[]api.Rat{&g.A, &g.B, &g.G, &g.H}[place]
}

func number(n, d int) api.Rat {
	a, _ := rat.Of(n, d)
	return a
}

// thrown is a number that may be handed in: small, or of up to four limbs.
func thrown(r *rand.Rand) api.Rat {
	if r.Intn(3) > 0 {
		return number(r.Intn(19)-9, 1+r.Intn(6))
	}
	n, d := thrownLimbs(r), thrownLimbs(r)
	a, e := rat.Make(r.Intn(2) == 0, n, d)
	if e != api.OK {
		return number(0, 1)
	}
	return a
}

func thrownLimbs(r *rand.Rand) []uint32 {
	l := make([]uint32, r.Intn(api.MaxLimbs+1))
	for k := range l {
		l[k] = []uint32{0, 1, 1 << 31, top, r.Uint32(), r.Uint32()}[r.Intn(6)]
	}
	for len(l) > 0 && l[len(l)-1] == 0 {
		l = l[:len(l)-1]
	}
	return l
}

// told is a Gen that gen.Check must allow, so long as n and rank may be.
func told(r *rand.Rand, kind, n, rank int) api.Gen {
	g := api.Gen{Kind: kind, N: n, R: rank}
	for place, many := range shape(kind, n, rank) {
		l := row(&g, place)
		for len(*l) < many {
			a := thrown(r)
			if place != 1 || !slices.ContainsFunc(g.A, func(b api.Rat) bool { return rat.Same(a, b) }) {
				*l = append(*l, a)
			}
		}
	}
	return g
}

// allowed: Gens of each kind, of each size and rank.
func allowed(seed int64) []api.Gen {
	r := rand.New(rand.NewSource(seed))
	var l []api.Gen
	for _, kind := range kinds() {
		for n := 1; n <= api.MaxSize; n++ {
			for _, rank := range ranks(kind) {
				l = append(l, told(r, kind, n, rank))
			}
		}
	}
	return l
}

// changed is a copy of g, but for one number.
func changed(g api.Gen, place, k int, to api.Rat) api.Gen {
	l := row(&g, place)
	*l = slices.Clone(*l)
	(*l)[k] = to
	return g
}

// longest: numbers of just four limbs, above, below and both.
func longest() []api.Rat {
	return []api.Rat{
		{N: []uint32{0, 0, 0, 1}, D: []uint32{1}}, {N: []uint32{1}, D: []uint32{0, 0, 0, 1}},
		{Neg: true, N: []uint32{top, top, top, top}, D: []uint32{1}}, {N: []uint32{1}, D: []uint32{top, top, top, top}},
		{N: []uint32{1, 2, 3, 4}, D: []uint32{2, 2, 3, 4}}, {Neg: true, N: []uint32{top - 1, top, top, top}, D: []uint32{top, top, top, top}},
	}
}

// wrong: what is no rational number, or one that is not right, of at most four
// limbs above and below, so that bytes can tell it.
func wrong() []api.Rat {
	return []api.Rat{
		{}, {Neg: true}, {N: []uint32{1}}, {N: []uint32{1}, D: []uint32{0}}, {N: []uint32{1}, D: []uint32{0, 0, 0, 0}},
		{N: []uint32{1, 0}, D: []uint32{1}}, {N: []uint32{1}, D: []uint32{1, 0}}, {N: []uint32{1, 2, 3, 0}, D: []uint32{7}},
		{N: []uint32{7}, D: []uint32{1, 2, 3, 0}}, {N: []uint32{0}, D: []uint32{1}}, {N: []uint32{0, 0}, D: []uint32{1}},
		{Neg: true, D: []uint32{1}}, {D: []uint32{2}}, {D: []uint32{1, 1}}, {D: []uint32{0}}, {D: []uint32{1, 0}},
		{N: []uint32{2}, D: []uint32{2}}, {Neg: true, N: []uint32{6}, D: []uint32{4}}, {N: []uint32{0, 3}, D: []uint32{0, 2}},
		{N: []uint32{5, 5, 5, 5}, D: []uint32{10}}, {N: []uint32{top, top, top, top}, D: []uint32{top, top, top, top}},
	}
}

// field is a piece of bytes that is read as one thing.
type field struct {
	name     string // head, neg, count or limb
	at, size int
}

// laidOut writes a Gen by P601's words, whether gen.Check allows it or not,
// and says where each field stands.
func laidOut(g api.Gen) ([]byte, []field) {
	b := []byte{byte(g.Kind), byte(g.N), byte(g.R)}
	fields := []field{{"head", 0, 3}}
	put := func(name string, piece ...byte) {
		fields = append(fields, field{name, len(b), len(piece)})
		b = append(b, piece...)
	}
	for place := range 4 {
		for _, a := range *row(&g, place) {
			put("neg", map[bool]byte{true: 1}[a.Neg])
			for _, limbs := range [][]uint32{a.N, a.D} {
				put("count", byte(len(limbs)))
				for _, limb := range limbs {
					put("limb", binary.LittleEndian.AppendUint32(nil, limb)...)
				}
			}
		}
	}
	return b, fields
}

func written(g api.Gen) []byte {
	b, _ := laidOut(g)
	return b
}

// like holds Gens against each other, limb by limb.
func like(a, b api.Gen) bool {
	for place := range 4 {
		same := slices.EqualFunc(*row(&a, place), *row(&b, place), func(x, y api.Rat) bool {
			return x.Neg == y.Neg && slices.Equal(x.N, y.N) && slices.Equal(x.D, y.D)
		})
		if !same {
			return false
		}
	}
	return a.Kind == b.Kind && a.N == b.N && a.R == b.R
}

// expectError asks for the zero Gen beside the error, too (P4).
func expectError(t *testing.T, b []byte, want api.Errno) {
	t.Helper()
	g, e := code.Parse(b)
	if e != want {
		t.Fatalf("Parse of %v: %v, not %v", b, e, want)
	}
	if !like(g, api.Gen{}) {
		t.Fatalf("Parse of %v: %+v beside %v", b, g, e)
	}
}

func expectParse(t *testing.T, b []byte, want api.Gen) {
	t.Helper()
	g, e := code.Parse(b)
	if e != api.OK || !like(g, want) {
		t.Fatalf("Parse of %v: %+v and %v, not %+v", b, g, e, want)
	}
}
