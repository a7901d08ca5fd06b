package blend

import (
	"criadera/api"
	"criadera/checks"
	"criadera/choices"
	"criadera/ranges"
)

// wholeError asks for the numbers of some casks, ascending.
func (l cellar) wholeError(casks []int) api.Errno {
	return checks.First(
		checks.Unless(len(casks) > 0, api.ErrEmpty),
		checks.Chosen(casks, len(l)))
}

// allOf is the amounts of all casks in a blend of whole ones.
func (l cellar) allOf(casks []int) []int {
	amounts := make([]int, len(l))
	for _, cask := range casks {
		amounts[cask] = l[cask].Volume
	}
	return amounts
}

// WholeMeans returns the means of a blend of whole casks, rounded down and up.
func WholeMeans(l []api.BlendCask, casks []int) ([api.BlendKinds]api.Range, api.Errno) {
	var means [api.BlendKinds]api.Range
	if e := checks.First(casksError(l, api.MaxBlendWhole), cellar(l).wholeError(casks)); e != api.OK {
		return means, e
	}
	amounts := cellar(l).allOf(casks)
	if total(amounts) == 0 {
		return means, api.ErrEmpty
	}
	for kind := range means {
		x := cellar(l).mean(amounts, kind)
		means[kind] = api.Range{Lo: ranges.Floor(x[0], x[1]), Hi: ranges.Ceiling(x[0], x[1])}
	}
	return means, api.OK
}

// costOfAll is the cost of a blend of whole casks, if it meets the sample.
func (t task) costOfAll(casks []int) (int, api.Errno) {
	amounts := t.allOf(casks)
	switch {
	case total(amounts) < t.Volume:
		return 0, api.ErrGap
	case !t.hasMeans(amounts):
		return 0, api.ErrClash
	}
	return comesTo(amounts, t.cost), api.OK
}

// CheckWhole accepts a blend of whole casks that meets a sample, and returns its cost.
func CheckWhole(l []api.BlendCask, s api.BlendSample, casks []int) (int, api.Errno) {
	t, e := taskOf(l, s, api.MaxBlendWhole)
	if e := checks.First(e, t.wholeError(casks)); e != api.OK {
		return 0, e
	}
	return t.costOfAll(casks)
}

// BestWhole returns the best blend of whole casks that meets a sample, and its cost. Blends are tried in the order in which they are better at the same cost.
func BestWhole(l []api.BlendCask, s api.BlendSample) ([]int, int, api.Errno) {
	t, e := taskOf(l, s, api.MaxBlendWhole)
	if e != api.OK {
		return nil, 0, e
	}
	var best []int
	least := 0
	for many := range len(l) {
		for casks := range choices.Of(t.numbers(), many+1) {
			cost, e := t.costOfAll(casks)
			if e == api.OK && (best == nil || cost < least) {
				best, least = casks, cost
			}
		}
	}
	return best, least, checks.Unless(best != nil, api.ErrNone)
}

// numbers is the numbers of all casks.
func (l cellar) numbers() []int {
	all := make([]int, 0, len(l))
	for cask := range l {
		all = append(all, cask)
	}
	return all
}
