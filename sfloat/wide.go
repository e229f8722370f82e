package sfloat

import (
	"math/bits"
)

const (
	wordBits = 64
	wideBits = 128
)

// wide is a natural number of 128 bits. Where one was cut off below, its last
// bit is set if anything was lost: rounding asks no more of what lies so far
// down than whether there is something.
type wide struct {
	hi, lo uint64
}

func (w wide) isNought() bool {
	return w.hi|w.lo == 0
}

// free tells how many bits above the highest one are 0.
func (w wide) free() int {
	if w.hi != 0 {
		return bits.LeadingZeros64(w.hi)
	}
	return wordBits + bits.LeadingZeros64(w.lo)
}

// up is w times 2^k, for k from 0 to what is free.
func (w wide) up(k int) wide {
	if k >= wordBits {
		return wide{w.lo << (k - wordBits), 0}
	}
	return wide{w.hi<<k | w.lo>>(wordBits-k), w.lo << k}
}

// down is w divided by 2^k, for any k from 0 on, with the last bit set if
// something was lost.
func (w wide) down(k int) wide {
	for k = min(k, wideBits); k >= wordBits; k -= wordBits {
		w = wide{0, w.hi | rest(w.lo)}
	}
	lost := w.lo << (wordBits - k)
	return wide{w.hi >> k, w.hi<<(wordBits-k) | w.lo>>k | rest(lost)}
}

// rest is a last bit that stands for all that is left.
func rest(left uint64) uint64 {
	if left != 0 {
		return 1
	}
	return 0
}

func (w wide) less(x wide) bool {
	return w.hi < x.hi || w.hi == x.hi && w.lo < x.lo
}

func (w wide) plus(x wide) wide {
	lo, carry := bits.Add64(w.lo, x.lo, 0)
	hi, _ := bits.Add64(w.hi, x.hi, carry)
	return wide{hi, lo}
}

func (w wide) minus(x wide) wide {
	lo, borrow := bits.Sub64(w.lo, x.lo, 0)
	hi, _ := bits.Sub64(w.hi, x.hi, borrow)
	return wide{hi, lo}
}

func product(a, b uint64) wide {
	hi, lo := bits.Mul64(a, b)
	return wide{hi, lo}
}

// root is the greatest number whose square is not greater than w.
func (w wide) root() uint64 {
	var r uint64
	for bit := uint64(1) << (wordBits - 1); bit != 0; bit >>= 1 {
		if !w.less(product(r|bit, r|bit)) {
			r |= bit
		}
	}
	return r
}
