package fast

import (
	"anticline/api"
	"anticline/rat"
)

// place is that of an entry, from 0 on, or one outside.
type place struct{ i, j int }

// sheet has a matrix's entries by their places: a place that is not there
// stands outside. The Gen's nodes are needed beside them.
type sheet struct {
	g       api.Gen
	entries map[place]api.Rat
}

func laidOut(g api.Gen, m [][]api.Rat) sheet {
	entries := map[place]api.Rat{}
	for i, row := range m {
		for j, entry := range row {
			entries[place{i, j}] = entry
		}
	}
	return sheet{g: g, entries: entries}
}

func (s sheet) at(i, j int) api.Rat {
	if entry, inside := s.entries[place{i, j}]; inside {
		return entry
	}
	return api.Rat{D: []uint32{1}} // nought
}

// rule is how an entry of this kind is displaced.
func (s sheet) rule() func(i, j int) api.Rat {
	switch s.g.Kind {
	case api.Hank:
		return s.across
	case api.Vand:
		return s.onward
	case api.Cauchy, api.CauGen:
		return s.between
	}
	return s.down
}

// down is along the diagonals that all have one number in a Toeplitz matrix.
func (s sheet) down(i, j int) api.Rat {
	return rat.Sub(s.at(i, j), s.at(i-1, j-1))
}

// across is along those that all have one number in a Hankel matrix.
func (s sheet) across(i, j int) api.Rat {
	return rat.Sub(s.at(i-1, j), s.at(i, j-1))
}

// onward is from one power of a row's node to the next one.
func (s sheet) onward(i, j int) api.Rat {
	return rat.Sub(rat.Mul(s.g.A[i], s.at(i, j)), s.at(i, j+1))
}

// between is by the difference of a row's node and a column's.
func (s sheet) between(i, j int) api.Rat {
	return rat.Mul(rat.Sub(s.g.A[i], s.g.B[j]), s.at(i, j))
}
