package nat

import (
	"math/bits"
	"math/rand"
	"testing"
)

// Steps that are not foreseen are made one by one: Gcd's answer would be
// right all the same, but slow. So this looks at the steps themselves.
func TestForeseeGoesFar(t *testing.T) {
	r := rand.New(rand.NewSource(64))
	for range 2000 {
		a, b := r.Uint64()|1<<63, r.Uint64()|1<<62
		if a < b {
			a, b = b, a
		}
		s := foresee(a, b)
		if a-b > 1<<40 && (s.v0 == 0 || s.v1 < 1<<8) {
			t.Errorf("%x, %x: v0 %x, v1 %x", a, b, s.v0, s.v1)
		}
		if s.u0>>limbBits+s.u1>>limbBits+s.v0>>limbBits+s.v1>>limbBits != 0 {
			t.Errorf("%x, %x: more than a limb: %+v", a, b, s)
		}
	}
	// neighbours of Fibonacci's row: all quotients are 1
	if s := foresee(12200160415121876738, 7540113804746346429); bits.Len64(s.v1) < 30 {
		t.Errorf("v1 %x", s.v1)
	}
}

func TestForeseeNothing(t *testing.T) {
	for _, x := range [][2]uint64{{1 << 63, 0}, {1 << 63, 1}, {1 << 63, 1 << 63}, {1<<64 - 1, 1<<64 - 1}} {
		if s := foresee(x[0], x[1]); s.v0 != 0 {
			t.Errorf("%x, %x: %+v", x[0], x[1], s)
		}
	}
}
