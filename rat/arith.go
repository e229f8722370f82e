package rat

import (
	"anticline/api"
	"anticline/nat"
)

func Add(a, b api.Rat) api.Rat {
	return join(a, b, whole.plus)
}

func Sub(a, b api.Rat) api.Rat {
	return join(a, b, whole.minus)
}

// join brings a and b over one denominator and joins what stands above it.
// Only what both denominators share can be shared with what comes out above,
// so the lowest terms are found without a look at the long products.
func join(a, b api.Rat, how func(x, y whole) whole) api.Rat {
	shared := nat.Gcd(a.D, b.D)
	restA, restB := over(a.D, shared), over(b.D, shared)
	joined := how(above(a).times(restB), above(b).times(restA))
	left := nat.Gcd(joined.size, shared)
	return signed(joined.neg, over(joined.size, left), nat.Mul(restA, over(b.D, left)))
}

// Mul takes out what one number's N and the other's D share before it
// multiplies: nothing else can be shared, and short numbers are divided faster.
func Mul(a, b api.Rat) api.Rat {
	first, second := nat.Gcd(a.N, b.D), nat.Gcd(b.N, a.D)
	n := nat.Mul(over(a.N, first), over(b.N, second))
	d := nat.Mul(over(a.D, second), over(b.D, first))
	return signed(a.Neg != b.Neg, n, d)
}

func Quo(a, b api.Rat) (api.Rat, api.Errno) {
	if isNought(b.N) {
		return api.Rat{}, api.ErrZero
	}
	return Mul(a, api.Rat{Neg: b.Neg, N: b.D, D: b.N}), api.OK
}

// whole is a number that stands above a denominator.
type whole struct {
	neg  bool
	size []uint32
}

func above(a api.Rat) whole {
	return whole{a.Neg, a.N}
}

func (x whole) times(m []uint32) whole {
	return whole{x.neg, nat.Mul(x.size, m)}
}

func (x whole) plus(y whole) whole {
	if x.neg == y.neg {
		return whole{x.neg, nat.Add(x.size, y.size)}
	}
	if nat.Cmp(x.size, y.size) < 0 {
		x, y = y, x
	}
	rest, _ := nat.Sub(x.size, y.size)
	return whole{x.neg, rest}
}

func (x whole) minus(y whole) whole {
	return x.plus(whole{!y.neg, y.size})
}
