package blend

import (
	"slices"

	"criadera/api"
	"criadera/checks"
	"criadera/lowest"
)

// CheckCasks returns the first error of casks, and the number of its cask (0 if none is named).
func CheckCasks(l []api.BlendCask) (int, api.Errno) {
	if e := checks.First(
		checks.Unless(len(l) > 0, api.ErrShape),
		checks.Unless(len(l) <= api.MaxBlendWhole, api.ErrLarge)); e != api.OK {
		return 0, e
	}
	return checks.Each(len(l), func(n int) api.Errno { return caskError(l[n], l[:n]) })
}

func caskError(c api.BlendCask, earlier []api.BlendCask) api.Errno {
	isThere := slices.ContainsFunc(earlier, func(other api.BlendCask) bool { return other.Name == c.Name })
	return checks.First(
		checks.Name(c.Name),
		checks.Unless(!isThere, api.ErrExists),
		checks.Number(c.Volume, 0, api.MaxBlendVolume),
		checks.Number(c.Cost, 0, api.MaxBlendCost),
		checks.Numbers(c.Values[:], 0, api.MaxBlendValue))
}

// casksError asks for casks, of which there are so many at most.
func casksError(l []api.BlendCask, most int) api.Errno {
	_, e := CheckCasks(l)
	return checks.First(e, checks.Unless(len(l) <= most, api.ErrLarge))
}

// A cellar is checked casks. Of an amount of each of them, numbers are worked out by functions that tell how much a decilitre of each cask counts.
type cellar []api.BlendCask

func (l cellar) cost(cask int) int { return l[cask].Cost }

func (l cellar) value(kind int) func(cask int) int {
	return func(cask int) int { return l[cask].Values[kind] }
}

// comesTo is what amounts of all casks come to.
func comesTo(amounts []int, counts func(cask int) int) int {
	sum := 0
	for cask, amount := range amounts {
		sum += amount * counts(cask)
	}
	return sum
}

// total is all amounts together.
func total(amounts []int) int { return comesTo(amounts, func(int) int { return 1 }) }

// mean is the mean of a kind in amounts that are not all 0.
func (l cellar) mean(amounts []int, kind int) [2]int {
	return lowest.Fraction(comesTo(amounts, l.value(kind)), total(amounts))
}
