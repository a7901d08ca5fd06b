package blend

import (
	"slices"

	"criadera/api"
	"criadera/lowest"
)

// Best returns a blend of least cost that meets a sample, its cost, and weights that prove it.
func Best(l []api.BlendCask, s api.BlendSample) (api.BlendBest, api.Errno) {
	t, e := taskOf(l, s, api.MaxBlendCasks)
	if e != api.OK {
		return api.BlendBest{}, e
	}
	c, ok := t.cheapest()
	if !ok {
		return api.BlendBest{}, api.ErrNone
	}
	p := t.partsOf(c)
	return api.BlendBest{Cost: t.costOf(p), Parts: p, Weights: t.weightsOf(c)}, api.OK
}

// Failure returns weights that prove a failure. Those that prove how far off each blend is, at least, do so if this is above 0.
func Failure(l []api.BlendCask, s api.BlendSample) (api.BlendWeights, api.Errno) {
	t, e := taskOf(l, s, api.MaxBlendCasks)
	if e != api.OK {
		return api.BlendWeights{}, e
	}
	c, ok := t.nearest()
	switch {
	case !ok:
		return t.tooLittle(), api.OK
	case c.Value == 0:
		return api.BlendWeights{}, api.ErrNone
	}
	return t.weightsOf(c), api.OK
}

// tooLittle is weights that prove that there is not enough wine.
func (t task) tooLittle() api.BlendWeights {
	return api.BlendWeights{Den: 1, Each: 1, Casks: slices.Repeat([]int{1}, len(t.cellar))}
}

// Nearest returns a blend of the least distance, and this distance.
func Nearest(l []api.BlendCask, s api.BlendSample) (api.BlendParts, [2]int, api.Errno) {
	t, e := taskOf(l, s, api.MaxBlendCasks)
	if e != api.OK {
		return api.BlendParts{}, [2]int{}, e
	}
	c, ok := t.nearest()
	if !ok {
		return api.BlendParts{}, [2]int{}, api.ErrBreak
	}
	return t.partsOf(c), lowest.Fraction(c.Value, c.Den), api.OK
}
