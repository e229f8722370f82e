package code_test

import (
	"bytes"
	"encoding/binary"
	"math/rand"
	"testing"

	"anticline/api"
	"anticline/code"
	"anticline/gen"
)

// P602: what was written is read as it was.
func TestP602WrittenIsRead(t *testing.T) {
	for seed := range int64(10) {
		for _, g := range allowed(50 + seed) {
			read, e := code.Parse(code.Bytes(g))
			if e != api.OK || !gen.Same(read, g) || !like(read, g) {
				t.Fatalf("%+v is read as %+v and %v", g, read, e)
			}
		}
	}
}

// expectBack: if bytes are read, they are those that Bytes writes.
func expectBack(t *testing.T, b []byte) bool {
	t.Helper()
	g, e := code.Parse(b)
	if e == api.OK && !bytes.Equal(code.Bytes(g), b) {
		t.Fatalf("%v is read, but written as %v", b, code.Bytes(g))
	}
	return e == api.OK
}

// P602: what is read was written so, of bytes that differ in one or two places
// from such as are written.
func TestP602ReadIsWritten(t *testing.T) {
	r := rand.New(rand.NewSource(60))
	read := 0
	for seed := range int64(20) {
		for _, g := range allowed(60 + seed) {
			b := written(g)
			for range 20 {
				changed := bytes.Clone(b)
				for range 1 + r.Intn(2) {
					changed[r.Intn(len(b))] = byte(r.Intn(256) >> r.Intn(9))
				}
				if expectBack(t, changed) {
					read++
				}
			}
		}
	}
	if read < 5000 {
		t.Errorf("only %d are read", read)
	}
}

// P602, of all bytes of one small number that begin with each Neg and count.
func TestP602ReadIsWrittenOfAllSmallNumbers(t *testing.T) {
	read := 0
	for neg := range byte(3) {
		for _, above := range smallLimbs() {
			for _, below := range smallLimbs() {
				b := append(append([]byte{3, 1, 0, neg}, above...), below...)
				if expectBack(t, b) {
					read++
				}
				expectBack(t, b[:len(b)-1])
				expectBack(t, append(b, 0))
			}
		}
	}
	if want := 1 + 2*2415; read != want { // nought, and what is in lowest terms, of both signs
		t.Errorf("%d are read, not %d", read, want)
	}
}

// smallLimbs: counts and limbs from 0 to 3, up to three of them, and more of
// the counts than may be.
func smallLimbs() [][]byte {
	l := [][]byte{{0}, {5}, {255}}
	ends := [][]byte{{}}
	for many := byte(1); many <= 3; many++ {
		var longer [][]byte
		for _, end := range ends {
			for limb := range uint32(4) {
				longer = append(longer, binary.LittleEndian.AppendUint32(bytes.Clone(end), limb))
			}
		}
		for _, end := range longer {
			l = append(l, append([]byte{many}, end...))
		}
		ends = longer
	}
	return l
}

// model reads bytes by P601's words in a way of its own.
func model(b []byte) (g api.Gen, e api.Errno) {
	at := 0
	next := func(n int) []byte {
		at += n
		if at > len(b) {
			panic(api.ErrCut)
		}
		return b[at-n : at]
	}
	upTo := func(most byte) int {
		v := next(1)[0]
		if v > most {
			panic(api.ErrArg)
		}
		return int(v)
	}
	limbs := func() (l []uint32) {
		for range upTo(4) {
			l = append(l, binary.LittleEndian.Uint32(next(4)))
		}
		return l
	}
	defer func() {
		if told, is := recover().(api.Errno); is {
			g, e = api.Gen{}, told
		}
	}()
	head := next(3)
	g = api.Gen{Kind: int(head[0]), N: int(head[1]), R: int(head[2])}
	if e := headError(g.Kind, g.N, g.R); e != api.OK {
		panic(e)
	}
	for place, many := range shape(g.Kind, g.N, g.R) {
		for range many {
			neg := upTo(1) == 1
			above := limbs()
			*row(&g, place) = append(*row(&g, place), api.Rat{Neg: neg, N: above, D: limbs()})
		}
	}
	if at < len(b) {
		panic(api.ErrMore)
	}
	if e := gen.Check(g); e != api.OK {
		panic(e)
	}
	return g, api.OK
}

// P601, P602, of bytes that came about in many ways.
func TestP601ParseByAModel(t *testing.T) {
	r := rand.New(rand.NewSource(61))
	seen := map[api.Errno]int{}
	for seed := range int64(20) {
		for _, g := range allowed(90 + seed) {
			for range 20 {
				b := muddled(r, written(g))
				want, e := model(b)
				seen[e]++
				if e == api.OK {
					expectParse(t, b, want)
				} else {
					expectError(t, b, e)
				}
			}
		}
	}
	for _, e := range []api.Errno{api.OK, api.ErrKind, api.ErrArg, api.ErrCut, api.ErrMore} {
		if seen[e] < 100 {
			t.Errorf("%v comes but %d times", e, seen[e])
		}
	}
}

// muddled changes bytes, and puts in, takes away, or cuts off some.
func muddled(r *rand.Rand, b []byte) []byte {
	for range r.Intn(3) {
		at := r.Intn(len(b) + 1)
		switch r.Intn(5) {
		case 0:
			b = append(b, byte(r.Intn(256)>>r.Intn(9)))
		case 1:
			b = b[:at]
		case 2:
			b = append(b[:at:at], b[min(at+1, len(b)):]...)
		case 3:
			b = append(b[:at:at], append([]byte{byte(r.Intn(8))}, b[at:]...)...)
		case 4:
			if at < len(b) {
				b[min(at, r.Intn(len(b)))] = byte(r.Intn(256) >> r.Intn(9))
			}
		}
	}
	return b
}
