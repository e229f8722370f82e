package dense

import (
	"anticline/api"
	"anticline/rat"
)

// columns: which ones are meant.
type columns [maxSize]bool

func first(k int) columns {
	var c columns
	for j := range k {
		c[j] = true
	}
	return c
}

// triangle is what rows of whole numbers become when they are taken in, one
// after the other. They keep their order, so that all leading minors can be
// told on the way: a row leads in the first column where it isn't nought,
// whichever that is.
type triangle struct {
	width int         // so many columns may be led; those behind are carried along
	seen  int         // so many rows were taken in
	rows  [][]api.Rat // those that came to more than noughts
	leads []int       // the column where each of these leads
	led   columns     // all of them
	odd   bool        // whether an odd number of exchanges puts leads in order
}

// triangleOf takes in all rows of a matrix.
func triangleOf(rows [][]api.Rat) *triangle {
	t := &triangle{width: len(rows)}
	for i := range len(rows) {
		t.take(rows[i])
	}
	return t
}

// take goes Bareiss' way: what comes out of each step is a minor, times the
// lead of the row ahead of the one that is taken away. Divided by that, all
// numbers stay whole, and as short as minors are.
func (t *triangle) take(row []api.Rat) {
	t.seen++
	by := one()
	for k := range len(t.rows) {
		row = cleared(row, t.rows[k], t.leads[k], by)
		by = t.lead(k)
	}
	for at := range t.width {
		if !isNought(row[at]) {
			t.keep(row, at)
			return
		}
	}
}

// cleared has a nought in the column at: so many times row, less so many times
// ahead, divided.
func cleared(row, ahead []api.Rat, at int, by api.Rat) []api.Rat {
	left := make([]api.Rat, len(row))
	for j := range len(row) {
		cross := rat.Sub(rat.Mul(ahead[at], row[j]), rat.Mul(row[at], ahead[j]))
		left[j] = over(cross, by)
	}
	return left
}

func (t *triangle) keep(row []api.Rat, at int) {
	for k := range len(t.leads) {
		if t.leads[k] > at {
			t.odd = !t.odd
		}
	}
	t.rows = append(t.rows, row)
	t.leads = append(t.leads, at)
	t.led[at] = true
}

// lead is the minor of the first rows up to k and of the columns that they
// lead, in that order.
func (t *triangle) lead(k int) api.Rat {
	return t.rows[k][t.leads[k]]
}

// minor is the leading one of as many rows as were taken in. If one of them
// doesn't lead in the first so many columns, it has noughts alone there.
func (t *triangle) minor() api.Rat {
	if t.led != first(t.seen) {
		return nought()
	}
	last := t.lead(t.seen - 1)
	if t.odd {
		return rat.Neg(last)
	}
	return last
}

// solved tells which vector the rows send to the column behind them; all
// columns must be led. The last lead is the determinant, but for its sign:
// times that, each number on the way is whole.
func (t *triangle) solved() []api.Rat {
	n := t.width
	last := t.lead(n - 1)
	x := make([]api.Rat, n)
	for k := n - 1; k >= 0; k-- {
		row := t.rows[k]
		rest := rat.Mul(last, row[n])
		for _, at := range t.leads[k+1:] {
			rest = rat.Sub(rest, rat.Mul(row[at], x[at]))
		}
		x[t.leads[k]] = over(rest, t.lead(k))
	}
	for j := range n {
		x[j] = over(x[j], last)
	}
	return x
}
