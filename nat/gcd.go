package nat

const topBits = 64

// Gcd goes the way of Lehmer: many steps of Euclid's way are foreseen from
// the top bits alone and then made at once, for each step by itself would go
// through all the limbs.
func Gcd(a, b []uint32) []uint32 {
	a, b = trim(a), trim(b)
	if Cmp(a, b) < 0 {
		a, b = b, a
	}
	x, y := clone(a), widen(b, len(a)-len(b))
	for len(trim(y)) > 2 {
		x, y = lessen(x, y)
		x = trim(x)
		y = y[:len(x):len(x)]
	}
	return gcdShort(x, trim(y))
}

// gcdShort is Gcd where y has at most two limbs and is not greater than x.
func gcdShort(x, y []uint32) []uint32 {
	if len(y) == 0 {
		return x
	}
	_, r := divide(x, y)
	u, _ := Small(y)
	v, _ := Small(r)
	for v != 0 {
		u, v = v, u%v
	}
	return Of(u)
}

// lessen makes one or more steps of Euclid's way in the memory of x and y,
// which are as long as one another, x not less and y of three limbs or more.
func lessen(x, y []uint32) ([]uint32, []uint32) {
	shift := Bits(x) - topBits
	s := foresee(bitsFrom(x, shift), bitsFrom(y, shift))
	if s.v0 == 0 {
		return oneStep(x, y)
	}
	return s.walk(x, y)
}

// oneStep: y, and what is left of x by y.
func oneStep(x, y []uint32) ([]uint32, []uint32) {
	_, r := divide(trim(x), trim(y))
	clear(x[copy(x, r):])
	return y, x
}

// bitsFrom tells the 64 bits of a from that one on that shift counts.
func bitsFrom(a []uint32, shift int) uint64 {
	i, part := shift/limbBits, shift%limbBits
	v := uint64(a[i]) | uint64(a[i+1])<<limbBits
	if part == 0 {
		return v
	}
	return v>>part | uint64(a[i+2])<<(topBits-part)
}

// steps: so many steps of Euclid's way lead from x and y to u0 x - v0 y and
// v1 y - u1 x or, if odd, to both with the other sign. All are below 2^32.
type steps struct {
	u0, u1, v0, v1 uint64
	odd            bool
}

// foresee makes steps of Euclid's way with the top bits of two numbers, as
// long as the bits below can't change a quotient (Collins' condition). v0 is
// 0 if there is none that is certain.
func foresee(a, b uint64) steps {
	s := steps{u1: 1, odd: true}
	u2, v2 := uint64(0), uint64(1)
	for b >= v2 && a-b >= s.v1+v2 {
		q := a / b
		a, b = b, a%b
		s.u0, s.u1, u2 = s.u1, u2, s.u1+q*u2
		s.v0, s.v1, v2 = s.v1, v2, s.v1+q*v2
		s.odd = !s.odd
	}
	return s
}

// walk goes these steps at once, in the memory of x and y.
func (s steps) walk(x, y []uint32) ([]uint32, []uint32) {
	if s.odd {
		x, y = y, x
		s.u0, s.v0 = s.v0, s.u0
		s.u1, s.v1 = s.v1, s.u1
	}
	greater := difference{plus: s.u0, minus: s.v0}
	less := difference{plus: s.v1, minus: s.u1}
	for i, limb := range x {
		x[i], y[i] = greater.next(limb, y[i]), less.next(y[i], limb)
	}
	return x, y
}

// difference is one multiple less another one, told limb by limb.
type difference struct {
	plus, minus           uint64
	carryPlus, carryMinus uint64
	borrow                uint64
}

func (d *difference) next(a, b uint32) uint32 {
	d.carryPlus += d.plus * uint64(a)
	d.carryMinus += d.minus * uint64(b)
	limb := uint64(uint32(d.carryPlus)) - uint64(uint32(d.carryMinus)) - d.borrow
	d.borrow = limb >> 63
	d.carryPlus >>= limbBits
	d.carryMinus >>= limbBits
	return uint32(limb)
}
