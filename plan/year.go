package plan

import (
	"iter"
	"slices"

	"criadera/api"
	"criadera/checks"
	"criadera/ranges"
)

// agesError asks for an age of each scale.
func (s system) agesError(ages []api.Range) api.Errno {
	if len(ages) != len(s.Scales) {
		return api.ErrShape
	}
	_, e := checks.Each(len(ages), func(n int) api.Errno { return checks.Range(ages[n], api.MaxPlanAge) })
	return e
}

// yearsError asks for ages at first, and for the draws of some years.
func (s system) yearsError(begin []api.Range, draws []int) api.Errno {
	if e := checks.First(s.agesError(begin), checks.Unless(len(draws) <= api.MaxPlanYears, api.ErrLarge), checks.Numbers(draws, 0, api.MaxPlanVolume)); e != api.OK {
		return e
	}
	_, e := checks.Each(len(draws), func(year int) api.Errno { return s.fullError(draws[year]) })
	return e
}

// behind is the ages behind a year with these flows, none of which is greater than the Volume of its scale.
func (s system) behind(ages, flows []api.Range) []api.Range {
	l := make([]api.Range, len(ages))
	for n, own := range ages {
		next := api.Range{Lo: s.New, Hi: s.New}
		if n+1 < len(ages) {
			next = ages[n+1]
		}
		l[n] = mixed(s.Scales[n].Volume, flows[n], own, next)
	}
	return l
}

// mixed is the age that a scale has a year after it got wine from the next one. Which flow makes it least hangs on which of the two is older.
func mixed(volume int, flow, own, next api.Range) api.Range {
	sum := func(flow, own, next int) int { return (volume-flow)*own + flow*next }
	least := min(sum(flow.Lo, own.Lo, next.Lo), sum(flow.Hi, own.Lo, next.Lo))
	greatest := max(sum(flow.Lo, own.Hi, next.Hi), sum(flow.Hi, own.Hi, next.Hi))
	return api.Range{Lo: ranges.Floor(least, volume) + thousand, Hi: ranges.Ceiling(greatest, volume) + thousand}
}

// years yields the ages behind each year.
func (s system) years(begin []api.Range, draws []int) iter.Seq2[int, []api.Range] {
	return func(yield func(year int, ages []api.Range) bool) {
		ages := begin
		for year, draw := range draws {
			ages = s.behind(ages, s.flows(draw))
			if !yield(year, ages) {
				return
			}
		}
	}
}

// isShort tells whether a scale of this age is short.
func (s system) isShort(n int, age api.Range) bool { return age.Lo < s.Scales[n].Least }

// AgesAfter returns the ages behind years with these draws.
func AgesAfter(s api.PlanSystem, begin []api.Range, draws []int) ([]api.Range, api.Errno) {
	checked, e := systemOf(s)
	if e := checks.First(e, checked.yearsError(begin, draws)); e != api.OK {
		return nil, e
	}
	last := slices.Clone(begin)
	for _, ages := range checked.years(begin, draws) {
		last = ages
	}
	return last, api.OK
}

// FirstShort returns the first year behind which a scale is short, and the first such scale.
func FirstShort(s api.PlanSystem, begin []api.Range, draws []int) (api.PlanShort, api.Errno) {
	checked, e := systemOf(s)
	if e := checks.First(e, checked.yearsError(begin, draws)); e != api.OK {
		return api.PlanShort{}, e
	}
	for year, ages := range checked.years(begin, draws) {
		for n, age := range ages {
			if checked.isShort(n, age) {
				return api.PlanShort{Year: year, Scale: n}, api.OK
			}
		}
	}
	return api.PlanShort{}, api.ErrNone
}
