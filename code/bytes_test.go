package code_test

import (
	"bytes"
	"testing"

	"anticline/api"
	"anticline/code"
)

func expectBytes(t *testing.T, g api.Gen, want []byte) {
	t.Helper()
	if b := code.Bytes(g); !bytes.Equal(b, want) {
		t.Fatalf("Bytes of %+v: %v, not %v", g, b, want)
	}
}

// byHand: Gens and their bytes, written out by the words of P601.
func byHand() map[string]api.Gen {
	half, minus, nought := number(1, 2), number(-258, 5), number(0, 1)
	long := api.Rat{N: []uint32{0x04030201, 0, 0, 0x80000000}, D: []uint32{0x08070605, 0x0c0b0a09, 0, 0xfffefdfc}}
	list := func(a ...api.Rat) []api.Rat { return a }
	const (
		h = "\x00\x01\x01\x00\x00\x00\x01\x02\x00\x00\x00"
		m = "\x01\x01\x02\x01\x00\x00\x01\x05\x00\x00\x00"
		n = "\x00\x00\x01\x01\x00\x00\x00"
		l = "\x00\x04\x01\x02\x03\x04\x00\x00\x00\x00\x00\x00\x00\x00\x00\x00\x00\x80" +
			"\x04\x05\x06\x07\x08\x09\x0a\x0b\x0c\x00\x00\x00\x00\xfc\xfd\xfe\xff"
	)
	return map[string]api.Gen{
		"\x01\x02\x00" + h + m + n:             {Kind: api.Toep, N: 2, A: list(half, minus, nought)},
		"\x02\x02\x00" + n + l + m:             {Kind: api.Hank, N: 2, A: list(nought, long, minus)},
		"\x03\x01\x00" + n:                     {Kind: api.Circ, N: 1, A: list(nought)},
		"\x04\x03\x00" + m + m + l:             {Kind: api.Vand, N: 3, A: list(minus, minus, long)},
		"\x05\x02\x00" + h + m + n + l:         {Kind: api.Cauchy, N: 2, A: list(half, minus), B: list(nought, long)},
		"\x06\x01\x02" + h + m + n + l:         {Kind: api.ToepGen, N: 1, R: 2, G: list(half, minus), H: list(nought, long)},
		"\x06\x01\x03" + h + m + n + l + h + h: {Kind: api.ToepGen, N: 1, R: 3, G: list(half, minus, nought), H: list(long, half, half)},
		"\x07\x02\x01" + h + h + m + l + n + h + l + m: {
			Kind: api.CauGen, N: 2, R: 1, A: list(half, half), B: list(minus, long), G: list(nought, half), H: list(long, minus),
		},
	}
}

func TestP601BytesByHand(t *testing.T) {
	for text, g := range byHand() {
		expectBytes(t, g, []byte(text))
	}
}

func TestP601Bytes(t *testing.T) {
	for seed := range int64(10) {
		for _, g := range allowed(seed) {
			expectBytes(t, g, written(g))
		}
	}
}

func TestP601BytesOfFourLimbs(t *testing.T) {
	for _, a := range longest() {
		for _, g := range oneNumberEach(a) {
			expectBytes(t, g, written(g))
			expectParse(t, written(g), g)
		}
	}
}

// oneNumberEach: Gens of each kind, in which a stands at each place by turns.
func oneNumberEach(a api.Rat) []api.Gen {
	var l []api.Gen
	for _, g := range []api.Gen{
		{Kind: api.Toep, N: 2, A: []api.Rat{number(1, 1), number(2, 1), number(3, 1)}},
		{Kind: api.Hank, N: 1, A: []api.Rat{number(1, 1)}},
		{Kind: api.Circ, N: 2, A: []api.Rat{number(1, 1), number(0, 1)}},
		{Kind: api.Vand, N: 2, A: []api.Rat{number(1, 1), number(-1, 1)}},
		{Kind: api.Cauchy, N: 1, A: []api.Rat{number(1, 3)}, B: []api.Rat{number(1, 7)}},
		{Kind: api.ToepGen, N: 2, R: 1, G: []api.Rat{number(1, 1), number(2, 1)}, H: []api.Rat{number(3, 1), number(4, 1)}},
		{Kind: api.CauGen, N: 1, R: 1, A: []api.Rat{number(5, 1)}, B: []api.Rat{number(5, 2)}, G: []api.Rat{number(1, 1)}, H: []api.Rat{number(2, 1)}},
	} {
		for place := range 4 {
			for k := range *row(&g, place) {
				l = append(l, changed(g, place, k, a))
			}
		}
	}
	return l
}
