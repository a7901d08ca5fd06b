package age

import (
	"criadera/api"
	"criadera/exact"
)

// AtLeast returns the share of at least an age in a cask.
func AtLeast(s api.ScaleSystem, turns int, x api.AgeShare) (api.Range, api.Errno) {
	return asked(s, conditions{areTurns(turns), hasShares(x.Cask), inRange(x.Age, 0, turns)}, func(c *system) (api.Range, api.Errno) {
		h := c.powered(turns)
		return shareOf(h.atLeast(x.Cask, x.Age), h.whole(x.Cask)), api.OK
	})
}

// Greatest returns the greatest age of which a cask has at least a share of wine that is at least so old.
func Greatest(s api.ScaleSystem, turns int, x api.AgeShare) (int, api.Errno) {
	return asked(s, conditions{areTurns(turns), hasShares(x.Cask), inRange(x.Part, 0, api.Unit)}, func(c *system) (int, api.Errno) {
		h := c.powered(turns)
		least := h.whole(x.Cask).Times(exact.Of(x.Part))
		age := turns
		for age > 0 && h.atLeast(x.Cask, age).Times(exact.Of(api.Unit)).Compare(least) < 0 {
			age--
		}
		return age, api.OK
	})
}

// Older tells whether the wine of a cask is surely older than that of another one.
func Older(s api.ScaleSystem, turns int, casks [2]int) (int, api.Errno) {
	return asked(s, conditions{areTurns(turns), hasShares(casks[0]), hasShares(casks[1])}, func(c *system) (int, api.Errno) {
		h := c.powered(turns)
		more, less := false, false
		for age := range turns + 1 {
			first := h.atLeast(casks[0], age).Times(h.whole(casks[1]))
			second := h.atLeast(casks[1], age).Times(h.whole(casks[0]))
			more = more || first.Compare(second) > 0
			less = less || first.Compare(second) < 0
		}
		switch {
		case more && !less:
			return api.AnswerYes, api.OK
		case less && !more:
			return api.AnswerNo, api.OK
		}
		return api.AnswerMaybe, api.OK
	})
}
