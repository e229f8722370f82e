package dense

import (
	"anticline/api"
	"anticline/rat"
)

const maxSize = 16

// widths: how long each row is, as far as there are rows.
type widths [maxSize]int

func square(n int) widths {
	var w widths
	for i := range n {
		w[i] = n
	}
	return w
}

func widthsOf(m [][]api.Rat) widths {
	var w widths
	for i := range len(m) {
		w[i] = len(m[i])
	}
	return w
}

// sizeOf tells the size of a matrix, and 0 of what is none: of that the calls
// answer nothing.
func sizeOf(m [][]api.Rat) int {
	n := len(m)
	if n > maxSize || widthsOf(m) != square(n) {
		return 0
	}
	for i := range n {
		if !areRight(m[i]) {
			return 0
		}
	}
	return n
}

func isVector(v []api.Rat, n int) bool {
	return len(v) == n && areRight(v)
}

func areRight(list []api.Rat) bool {
	for i := range len(list) {
		if !rat.Right(list[i]) {
			return false
		}
	}
	return true
}

// turned has m's rows as columns, but the numbers themselves are m's.
func turned(m [][]api.Rat, n int) [][]api.Rat {
	rows := make([][]api.Rat, n)
	for i := range n {
		rows[i] = make([]api.Rat, n)
		for j := range n {
			rows[i][j] = m[j][i]
		}
	}
	return rows
}
