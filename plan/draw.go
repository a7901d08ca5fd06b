package plan

import (
	"sort"

	"criadera/api"
	"criadera/checks"
)

// firstBroken is the number of the first scale that does not bear a draw for ever, with the greatest losses; -1 if there is none.
func (s system) firstBroken(draw int) int {
	flows := s.flows(draw)
	for n, flow := range flows {
		if s.isFull(n, flow) || flow.Hi > 0 && s.isShort(n, s.steady(n, flows, moreLost)) {
			return n
		}
	}
	return -1
}

// ForEver returns the greatest draw that all scales bear for ever, and the number of the first scale that one decilitre more would break. More of it makes no flow lesser and no age greater, so what breaks a scale does so with each greater draw.
func ForEver(s api.PlanSystem) (int, int, api.Errno) {
	checked, e := systemOf(s)
	if e != api.OK {
		return 0, 0, e
	}
	tooMuch := sort.Search(api.MaxPlanVolume+1, func(draw int) bool { return checked.firstBroken(draw) >= 0 })
	switch {
	case tooMuch == 0:
		return 0, 0, api.ErrNone
	case tooMuch > api.MaxPlanVolume:
		return api.MaxPlanVolume, -1, api.OK
	}
	return tooMuch - 1, checked.firstBroken(tooMuch), api.OK
}

// GreatestNow returns the greatest draw with which, and with each lesser one, no scale is short behind a year. Each draw is tried: a greater one may make a scale older, if the next one is. No scale holds more than MaxPlanVolume, so there is a draw that is too great.
func GreatestNow(s api.PlanSystem, begin []api.Range) (int, api.Errno) {
	checked, e := systemOf(s)
	if e := checks.First(e, checked.agesError(begin)); e != api.OK {
		return 0, e
	}
	draw := 0
search:
	for ; checked.fullError(draw) == api.OK; draw++ {
		for n, age := range checked.behind(begin, checked.flows(draw)) {
			if checked.isShort(n, age) {
				break search
			}
		}
	}
	if draw == 0 {
		return 0, api.ErrNone
	}
	return draw - 1, api.OK
}
