package age

import (
	"slices"

	"criadera/api"
	"criadera/lowest"
)

// Reached returns the least age that comes into each cask (-1 if there is none).
func Reached(s api.ScaleSystem) ([]int, api.Errno) {
	return asked(s, nil, func(c *system) ([]int, api.Errno) { return c.reached(), api.OK })
}

// reached goes on from casks with new wine: no amounts cancel each other, so that an age comes wherever wine of the age before goes.
func (c *system) reached() []int {
	ages := make([]int, len(c.Casks))
	for cask := range c.Casks {
		ages[cask] = -1
		if c.New[cask] > 0 {
			ages[cask] = 0
		}
	}
	c.spread(ages)
	return ages
}

// spread puts into all further casks (those with -1) in how many turns wine comes there.
func (c *system) spread(turns []int) {
	for n := range c.Casks {
		for from := range c.Casks {
			for to := range c.Casks {
				if turns[from] == n && turns[to] < 0 && c.goes(from, to) {
					turns[to] = n + 1
				}
			}
		}
	}
}

// Closed returns all closed sets with their periods.
func Closed(s api.ScaleSystem) ([]api.AgeClosed, api.Errno) {
	return asked(s, nil, func(c *system) ([]api.AgeClosed, api.Errno) {
		var sets []api.AgeClosed
		for cask := range c.Casks {
			if set := c.closedSet(cask); len(set) > 0 && set[0] == cask {
				sets = append(sets, api.AgeClosed{Casks: set, Period: c.period(set)})
			}
		}
		return sets, api.OK
	})
}

// closedSet is the closed set to which a cask belongs, or nothing: all casks to which its wine goes, if it comes back from each one, and none of it is sold.
func (c *system) closedSet(cask int) []int {
	set := c.behind(cask)
	for _, other := range set {
		if c.soldOf(other) > 0 || !slices.Contains(c.behind(other), cask) {
			return nil
		}
	}
	return set
}

// behind is all casks to which wine of a cask goes, in one turn or more.
func (c *system) behind(cask int) []int {
	turns := make([]int, len(c.Casks))
	for to := range c.Casks {
		turns[to] = -1
		if c.goes(cask, to) {
			turns[to] = 0
		}
	}
	c.spread(turns)
	var set []int
	for to, n := range turns {
		if n >= 0 {
			set = append(set, to)
		}
	}
	return set
}

// period compares, for all ways of one turn, in how many turns their ends are reached from one cask: all ways back are made of these differences.
func (c *system) period(set []int) int {
	turns := make([]int, len(c.Casks))
	for cask := range c.Casks {
		turns[cask] = -1
	}
	turns[set[0]] = 0
	c.spread(turns)
	period := 0
	for _, from := range set {
		for _, to := range set {
			if c.goes(from, to) {
				period = lowest.Divisor(period, turns[from]+1-turns[to])
			}
		}
	}
	return period
}

// settled is all settled casks.
func (c *system) settled() []int {
	var l []int
	for cask, v := range c.Casks {
		if v.Start > 0 && len(c.closedSet(cask)) == 0 {
			l = append(l, cask)
		}
	}
	return l
}
