package blend

import (
	"criadera/api"
	"criadera/checks"
	"criadera/lowest"
)

// partsError asks for parts of all casks.
func (l cellar) partsError(p api.BlendParts) api.Errno {
	if e := checks.First(
		checks.Number(p.Den, 1, api.MaxBlendDen),
		checks.Unless(len(p.Parts) == len(l), api.ErrShape)); e != api.OK {
		return e
	}
	_, e := checks.Each(len(l), func(cask int) api.Errno {
		return checks.First(
			checks.Unless(p.Parts[cask] >= 0, api.ErrRange),
			checks.Unless(p.Parts[cask] <= p.Den*l[cask].Volume, api.ErrBreak))
	})
	return e
}

// CheckParts returns the first error of parts of casks.
func CheckParts(l []api.BlendCask, p api.BlendParts) api.Errno {
	if e := casksError(l, api.MaxBlendCasks); e != api.OK {
		return e
	}
	return cellar(l).partsError(p)
}

// someOf is the casks of parts that are not all 0.
func someOf(l []api.BlendCask, p api.BlendParts) (cellar, api.Errno) {
	if e := checks.First(CheckParts(l, p), checks.Unless(total(p.Parts) > 0, api.ErrEmpty)); e != api.OK {
		return nil, e
	}
	return l, api.OK
}

// MeanOf returns the means of a blend.
func MeanOf(l []api.BlendCask, p api.BlendParts) ([api.BlendKinds][2]int, api.Errno) {
	var means [api.BlendKinds][2]int
	casks, e := someOf(l, p)
	if e != api.OK {
		return means, e
	}
	for kind := range means {
		means[kind] = casks.mean(p.Parts, kind)
	}
	return means, api.OK
}

func (l cellar) costOf(p api.BlendParts) [2]int {
	return lowest.Fraction(comesTo(p.Parts, l.cost), p.Den)
}

// CostOf returns the cost of a blend.
func CostOf(l []api.BlendCask, p api.BlendParts) ([2]int, api.Errno) {
	casks, e := someOf(l, p)
	if e != api.OK {
		return [2]int{}, e
	}
	return casks.costOf(p), api.OK
}

// wantedOf is the task of a blend that is as much as is wanted.
func wantedOf(l []api.BlendCask, s api.BlendSample, p api.BlendParts) (task, api.Errno) {
	t, e := taskOf(l, s, api.MaxBlendCasks)
	if e := checks.First(e, t.partsError(p), checks.Unless(total(p.Parts) == p.Den*s.Volume, api.ErrGap)); e != api.OK {
		return task{}, e
	}
	return t, api.OK
}

// CheckBlend accepts a blend that meets a sample, and returns its cost.
func CheckBlend(l []api.BlendCask, s api.BlendSample, p api.BlendParts) ([2]int, api.Errno) {
	t, e := wantedOf(l, s, p)
	switch {
	case e != api.OK:
		return [2]int{}, e
	case !t.hasMeans(p.Parts):
		return [2]int{}, api.ErrClash
	}
	return t.costOf(p), api.OK
}

// DistanceOf returns the distance of a blend.
func DistanceOf(l []api.BlendCask, s api.BlendSample, p api.BlendParts) ([2]int, api.Errno) {
	t, e := wantedOf(l, s, p)
	if e != api.OK {
		return [2]int{}, e
	}
	furthest := 0
	for _, r := range t.ends() {
		furthest = max(furthest, comesTo(p.Parts, r.counts))
	}
	return lowest.Fraction(furthest, total(p.Parts)), api.OK
}
