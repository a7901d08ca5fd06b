package blend

import (
	"slices"

	"criadera/api"
)

// The kinds of rows.
const (
	high = iota // a mean is not above its range
	low         // a mean is not below its range
	full        // a cask gives no more than it has
)

// A row is a condition of amounts: they come by counts to most at most. Its number is that of the kind of value, or of the cask.
type row struct {
	kind, number, most int
	counts             func(cask int) int
}

// ends is the rows of all ends of the sample's ranges.
func (t task) ends() []row {
	var l []row
	for n, r := range t.Values {
		value := t.value(n)
		l = append(l,
			row{kind: high, number: n, counts: func(cask int) int { return value(cask) - r.Hi }},
			row{kind: low, number: n, counts: func(cask int) int { return r.Lo - value(cask) }})
	}
	return l
}

// rows is all rows.
func (t task) rows() []row {
	l := t.ends()
	for n, c := range t.cellar {
		l = append(l, row{kind: full, number: n, most: c.Volume, counts: func(cask int) int {
			if cask == n {
				return 1
			}
			return 0
		}})
	}
	return l
}

// hasMeans tells whether the means of amounts lie in the sample's ranges.
func (t task) hasMeans(amounts []int) bool {
	return !slices.ContainsFunc(t.ends(), func(r row) bool { return comesTo(amounts, r.counts) > 0 })
}

// weight is where weights have that of a row.
func (r row) weight(w *api.BlendWeights) *int {
	switch r.kind {
	case high:
		return &w.High[r.number]
	case low:
		return &w.Low[r.number]
	}
	return &w.Casks[r.number]
}
