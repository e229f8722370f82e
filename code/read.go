package code

import (
	"anticline/api"
	"anticline/gen"
)

// reader reads bytes from the front on. Its first error stays, and all that is
// read from then on is nought.
type reader struct {
	left []byte
	err  api.Errno
}

func (r *reader) fail(e api.Errno) {
	if r.err == api.OK {
		r.err = e
	}
}

// read reads all that there is as one Gen, whose numbers need not be right.
func (r *reader) read() api.Gen {
	g := r.head()
	if r.err != api.OK {
		return g
	}
	r.rows(&g)
	if len(r.left) > 0 {
		r.fail(api.ErrMore)
	}
	return g
}

// head asks gen.Check for Kind, N and R alone: where they may be, it misses no
// more than the rows, which no kind goes without.
func (r *reader) head() api.Gen {
	var head [headSize]byte
	r.fill(head[:])
	g := api.Gen{Kind: int(head[0]), N: int(head[1]), R: int(head[2])}
	if e := gen.Check(g); e != api.ErrLong {
		r.fail(e)
	}
	return g
}

func (r *reader) rows(g *api.Gen) {
	a, b, each := counts(*g)
	numbers := make([]api.Rat, a+b+2*each)
	for k := range numbers {
		numbers[k] = r.number()
	}
	g.A, numbers = cut(numbers, a)
	g.B, numbers = cut(numbers, b)
	g.G, g.H = cut(numbers, each)
}

// counts: how many numbers A has, and B, and each of G and H, which have none
// where R is 0.
func counts(g api.Gen) (a, b, each int) {
	each = g.N * g.R
	switch g.Kind {
	case api.Toep, api.Hank:
		return 2*g.N - 1, 0, each
	case api.Circ, api.Vand:
		return g.N, 0, each
	case api.ToepGen:
		return 0, 0, each
	}
	return g.N, g.N, each
}

// cut parts a list behind its first n. They get no spare room, as it would be
// the rest.
func cut(list []api.Rat, n int) (front, rest []api.Rat) {
	return list[:n:n], list[n:]
}

func (r *reader) number() api.Rat {
	return api.Rat{Neg: r.upTo(1) == 1, N: r.limbs(), D: r.limbs()}
}

func (r *reader) limbs() []uint32 {
	limbs := make([]uint32, r.upTo(api.MaxLimbs))
	for k := range limbs {
		limbs[k] = r.limb()
	}
	return limbs
}

func (r *reader) limb() uint32 {
	var b [limbSize]byte
	r.fill(b[:])
	return uint32(b[0]) | uint32(b[1])<<8 | uint32(b[2])<<16 | uint32(b[3])<<24
}

// upTo reads a byte that may not be above most.
func (r *reader) upTo(most byte) byte {
	var b [1]byte
	r.fill(b[:])
	if b[0] > most {
		r.fail(api.ErrArg)
	}
	return b[0]
}

// fill reads as many bytes as the field has, or none.
func (r *reader) fill(field []byte) {
	if len(r.left) < len(field) {
		r.fail(api.ErrCut)
	}
	if r.err == api.OK {
		r.left = r.left[copy(field, r.left):]
	}
}
