package blend

import (
	"slices"

	"criadera/api"
	"criadera/corners"
	"criadera/lowest"
)

// Blends are looked for by the share of the wanted volume that each cask gives: shares are 1 together, which is what package corners keeps without any rows.

// times is how many times a row counts shares. What it counts up to 0 it may as well count once.
func (t task) times(r row) int {
	if r.kind == full {
		return t.Volume
	}
	return 1
}

// plane is a row that shares keep if they come to 0 at most: most is taken from each of them.
func (t task) plane(r row) []int {
	l := make([]int, 0, len(t.cellar))
	for cask := range t.cellar {
		l = append(l, t.times(r)*r.counts(cask)-r.most)
	}
	return l
}

// cheapest is the shares that cost least, and whether a blend meets the sample.
func (t task) cheapest() (corners.Corner, bool) {
	var x corners.Task
	for cask := range t.cellar {
		x.One = append(x.One, 1)
		x.Worth = append(x.Worth, t.cost(cask))
	}
	for _, r := range t.rows() {
		x.Planes = append(x.Planes, t.plane(r))
	}
	return corners.Least(x)
}

// nearest is the shares of the least distance, which stands behind them, and whether there is enough wine.
func (t task) nearest() (corners.Corner, bool) {
	many := len(t.cellar)
	x := corners.Task{
		One:   append(slices.Repeat([]int{1}, many), 0),
		Worth: append(make([]int, many), 1),
	}
	for _, r := range t.rows() {
		x.Planes = append(x.Planes, append(t.plane(r), r.distant()))
	}
	return corners.Least(x)
}

// distant is how a row counts the distance: means may be so far above and below their ranges, but casks have no more.
func (r row) distant() int {
	if r.kind == full {
		return 0
	}
	return -1
}

// partsOf is the blend with the shares of a corner.
func (t task) partsOf(c corners.Corner) api.BlendParts {
	l := []int{c.Den}
	for cask := range t.cellar {
		l = append(l, t.Volume*c.Parts[cask])
	}
	l = lowest.Terms(l...)
	return api.BlendParts{Den: l[0], Parts: l[1:]}
}

// weightsOf is the weights of a corner. What planes take from each share as most of their rows is part of Each.
func (t task) weightsOf(c corners.Corner) api.BlendWeights {
	rows := t.rows()
	l := append([]int{c.Den, c.Value}, c.Weights...)
	for n, r := range rows {
		l[1] += c.Weights[n] * r.most
		l[2+n] *= t.times(r)
	}
	l = lowest.Terms(l...)
	w := api.BlendWeights{Den: l[0], Each: l[1], Casks: make([]int, len(t.cellar))}
	for n, r := range rows {
		*r.weight(&w) = l[2+n]
	}
	return w
}
