package dense

import (
	"anticline/api"
	"anticline/rat"
)

// frame is a matrix in whole numbers, without what a row's or a column's have
// in common: its entries are left[i] rows[i][j] right[j].
type frame struct {
	left, right []api.Rat
	rows        [][]api.Rat
}

// framed goes over rows or over columns ahead, whichever leaves shorter
// numbers: powers, say, have their denominators in common along the one, but
// not along the other.
func framed(m [][]api.Rat, n int) frame {
	rows, columns := rowsAhead(m, n), rowsAhead(turned(m, n), n)
	if rows.length() <= columns.length() {
		return rows
	}
	return frame{left: columns.right, right: columns.left, rows: turned(columns.rows, n)}
}

func rowsAhead(m [][]api.Rat, n int) frame {
	left, rows := measuredAll(m, n)
	right, columns := measuredAll(turned(rows, n), n)
	return frame{left: left, right: right, rows: turned(columns, n)}
}

// length is how many limbs all rows have.
func (f frame) length() int {
	sum := 0
	for i := range len(f.rows) {
		for j := range len(f.rows) {
			sum += len(f.rows[i][j].N)
		}
	}
	return sum
}

func measuredAll(lists [][]api.Rat, n int) (measures []api.Rat, wholes [][]api.Rat) {
	measures, wholes = make([]api.Rat, n), make([][]api.Rat, n)
	for i := range n {
		measures[i], wholes[i] = measured(lists[i])
	}
	return measures, wholes
}

// measured tells the greatest number that goes into all of a list a whole
// number of times, and these times. Into noughts alone any goes.
func measured(list []api.Rat) (measure api.Rat, wholes []api.Rat) {
	measure = nought()
	for i := range len(list) {
		measure = common(measure, list[i])
	}
	if isNought(measure) {
		measure = one()
	}
	wholes = make([]api.Rat, len(list))
	for i := range len(list) {
		wholes[i] = over(list[i], measure)
	}
	return measure, wholes
}

// common is the greatest number that goes into both: if a is n over d times
// measure, in lowest terms, one part in d of the measure does.
func common(measure, a api.Rat) api.Rat {
	if isNought(measure) {
		return rat.Abs(a)
	}
	return over(measure, whole(over(a, measure).D))
}

// minor is the matrix's minor where t has that of the whole numbers.
func (f frame) minor(t *triangle) api.Rat {
	minor := t.minor()
	for i := range t.seen {
		minor = rat.Mul(rat.Mul(minor, f.left[i]), f.right[i])
	}
	return minor
}

// carry puts a right side behind the rows, in whole numbers too, and tells
// what it was divided by beside the rows' own measures.
func (f frame) carry(b []api.Rat) (part api.Rat) {
	n := len(f.rows)
	sides := make([]api.Rat, n)
	for i := range n {
		sides[i] = over(b[i], f.left[i])
	}
	part, sides = measured(sides)
	for i := range n {
		f.rows[i] = append(f.rows[i], sides[i])
	}
	return part
}

// vector is what the matrix sends to the right side where x is what the whole
// numbers send to what was put behind them.
func (f frame) vector(x []api.Rat, part api.Rat) []api.Rat {
	for j := range len(x) {
		x[j] = over(rat.Mul(x[j], part), f.right[j])
	}
	return x
}
