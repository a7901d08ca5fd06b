package age

import (
	"criadera/api"
	"criadera/scale"
)

// mostTurn is the last turn whose day is told.
const mostTurn = 10000

// dayOf is the day of a turn of a right system.
func dayOf(s api.ScaleSystem, turn int) int {
	return api.Year*(turn/len(s.Days)) + s.Days[turn%len(s.Days)]
}

// DayOf returns the day of a turn. It asks nothing of the matrix of the system.
func DayOf(s api.ScaleSystem, turn int) (int, api.Errno) {
	if _, e := scale.CheckSystem(s); e != api.OK {
		return 0, e
	}
	if turn < 0 || turn > mostTurn {
		return 0, api.ErrRange
	}
	return dayOf(s, turn), api.OK
}

// daysOf is the days of all ages behind some turns, and of the old wine.
func (c *system) daysOf(turns, old int) []int {
	last := dayOf(c.ScaleSystem, turns-1)
	l := make([]int, 0, turns+1)
	for age := range turns {
		l = append(l, last-dayOf(c.ScaleSystem, turns-1-age))
	}
	return append(l, last+old)
}

// MeanDays returns the mean of the days of each cask's wine.
func MeanDays(s api.ScaleSystem, turns, old int) ([]api.Range, api.Errno) {
	return asked(s, conditions{areTurns(turns), inRange(old, 0, api.MaxDate)}, func(c *system) ([]api.Range, api.Errno) {
		h, days := c.powered(turns), c.daysOf(turns, old)
		means := make([]api.Range, len(c.Casks))
		for cask, amounts := range h.amounts {
			if c.Casks[cask].Start > 0 {
				means[cask] = enclosed(amounts.against(days), h.whole(cask))
			}
		}
		return means, api.OK
	})
}
