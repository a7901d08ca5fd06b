package age

import (
	"slices"

	"criadera/api"
	"criadera/exact"
)

// thousand is how many parts of a turn mean ages are told in.
const thousand = 1000

// isSettled asks for a cask that belongs to no closed set.
func isSettled(cask int) func(*system) api.Errno {
	return func(c *system) api.Errno {
		if !slices.Contains(c.settled(), cask) {
			return api.ErrOpen
		}
		return api.OK
	}
}

// SettledShare returns the share of an age in a settled cask.
func SettledShare(s api.ScaleSystem, cask, age int) (api.Range, api.Errno) {
	return asked(s, conditions{hasShares(cask), isSettled(cask), inRange(age, 0, api.MaxAgeTurns)}, func(c *system) (api.Range, api.Errno) {
		amounts, den := c.turnedBy(rowOf(c.New), age)
		whole := den.Times(exact.Of(c.Den)).Times(exact.Of(c.Casks[cask].Start))
		return shareOf(amounts[cask], whole), api.OK
	})
}

// SettledMeans returns the mean ages of all settled casks.
func SettledMeans(s api.ScaleSystem) ([]api.Range, api.Errno) {
	return asked(s, nil, func(c *system) ([]api.Range, api.Errno) {
		sums, den := c.ageSums()
		means := make([]api.Range, len(c.Casks))
		for _, cask := range c.settled() {
			means[cask] = enclosed(sums[cask].Times(exact.Of(thousand)), den.Times(exact.Of(c.Casks[cask].Start)))
		}
		return means, api.OK
	})
}

// SettledSold returns the mean age of what is sold in the end.
func SettledSold(s api.ScaleSystem) (api.Range, api.Errno) {
	return asked(s, conditions{isFilled}, func(c *system) (api.Range, api.Errno) {
		sums, den := c.ageSums()
		var all exact.Nat
		for _, cask := range c.settled() {
			ages := sums[cask].Plus(den.Times(exact.Of(c.Casks[cask].Start)))
			all = all.Plus(ages.Times(exact.Of(c.soldOf(cask))))
		}
		whole := den.Times(exact.Of(c.Den)).Times(exact.Of(c.filled))
		return enclosed(all.Times(exact.Of(thousand)), whole), api.OK
	})
}

// SettledWithin returns the least number of turns behind which at most a part of each settled cask is old wine.
func SettledWithin(s api.ScaleSystem, part int) (int, api.Errno) {
	return asked(s, conditions{inRange(part, 1, api.Unit)}, func(c *system) (int, api.Errno) {
		settled, old, den := c.settled(), rowOf(c.starts()), exact.Of(1)
		for turns := range api.MaxAgeTurns + 1 {
			hasMore := func(cask int) bool {
				return old[cask].Times(exact.Of(part)).Compare(den.Times(exact.Of(c.Casks[cask].Start))) > 0
			}
			if !slices.ContainsFunc(settled, hasMore) {
				return turns, api.OK
			}
			old, den = c.turned(old), den.Times(exact.Of(c.Den))
		}
		return 0, api.ErrNone
	})
}
