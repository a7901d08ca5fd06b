package blend

import (
	"criadera/api"
	"criadera/checks"
	"criadera/lowest"
)

func (l cellar) weightsError(w api.BlendWeights) api.Errno {
	return checks.First(
		checks.Number(w.Den, 1, api.MaxBlendDen),
		checks.Number(w.Each, -api.MaxBlendWeight, api.MaxBlendWeight),
		checks.Unless(len(w.Casks) == len(l), api.ErrShape),
		checks.Numbers(w.High[:], 0, api.MaxBlendWeight),
		checks.Numbers(w.Low[:], 0, api.MaxBlendWeight),
		checks.Numbers(w.Casks, 0, api.MaxBlendWeight))
}

// weighedOf is the task of right weights.
func weighedOf(l []api.BlendCask, s api.BlendSample, w api.BlendWeights) (task, api.Errno) {
	t, e := taskOf(l, s, api.MaxBlendCasks)
	if e := checks.First(e, t.weightsError(w)); e != api.OK {
		return task{}, e
	}
	return t, api.OK
}

// gives is what weights give to a cask.
func (t task) gives(w api.BlendWeights, cask int) int {
	sum := w.Each
	for _, r := range t.rows() {
		sum -= *r.weight(&w) * r.counts(cask)
	}
	return sum
}

// isWithin tells whether what weights give to each cask is no more than it counts.
func (t task) isWithin(w api.BlendWeights, counts func(cask int) int) bool {
	for cask := range t.cellar {
		if t.gives(w, cask) > counts(cask) {
			return false
		}
	}
	return true
}

// bound is the bound of weights, times their Den.
func (t task) bound(w api.BlendWeights) int {
	sum := w.Each * t.Volume
	for _, r := range t.rows() {
		sum -= *r.weight(&w) * r.most
	}
	return sum
}

// CheckWeights accepts weights that prove a cost, and returns their bound.
func CheckWeights(l []api.BlendCask, s api.BlendSample, w api.BlendWeights) ([2]int, api.Errno) {
	t, e := weighedOf(l, s, w)
	switch {
	case e != api.OK:
		return [2]int{}, e
	case !t.isWithin(w, func(cask int) int { return w.Den * t.cost(cask) }):
		return [2]int{}, api.ErrProof
	}
	return lowest.Fraction(t.bound(w), w.Den), api.OK
}

// CheckFailure accepts weights that prove a failure.
func CheckFailure(l []api.BlendCask, s api.BlendSample, w api.BlendWeights) api.Errno {
	t, e := weighedOf(l, s, w)
	if e != api.OK {
		return e
	}
	isProved := t.isWithin(w, func(int) int { return 0 }) && t.bound(w) > 0
	return checks.Unless(isProved, api.ErrProof)
}
