package plan

import (
	"slices"

	"criadera/api"
	"criadera/checks"
	"criadera/exact"
)

// thousand is how many parts of a year ages are told in.
const thousand = 1000

// CheckSystem returns the first error of a system, and the number of its scale (0 if none is named).
func CheckSystem(s api.PlanSystem) (int, api.Errno) {
	if e := checks.First(
		checks.Unless(len(s.Scales) > 0, api.ErrShape),
		checks.Unless(len(s.Scales) <= api.MaxPlanScales, api.ErrLarge),
		checks.Number(s.New, 0, api.MaxPlanAge)); e != api.OK {
		return 0, e
	}
	return checks.Each(len(s.Scales), func(n int) api.Errno { return scaleError(s.Scales[n]) })
}

func scaleError(x api.PlanScale) api.Errno {
	return checks.First(
		checks.Number(x.Volume, 1, api.MaxPlanVolume),
		checks.Range(x.Loss, x.Volume),
		checks.Number(x.Least, 0, api.MaxPlanAge))
}

func drawError(draw int) api.Errno { return checks.Number(draw, 0, api.MaxPlanVolume) }

// A system is a checked one.
type system struct{ api.PlanSystem }

func systemOf(s api.PlanSystem) (system, api.Errno) {
	if _, e := CheckSystem(s); e != api.OK {
		return system{}, e
	}
	return system{s}, api.OK
}

// flows is the flow of each scale, with the least and with the greatest losses.
func (s system) flows(draw int) []api.Range {
	l := make([]api.Range, 0, len(s.Scales))
	flow := api.Range{Lo: draw, Hi: draw}
	for _, x := range s.Scales {
		flow.Lo += x.Loss.Lo
		flow.Hi += x.Loss.Hi
		l = append(l, flow)
	}
	return l
}

// isFull tells whether a flow may be greater than the Volume of its scale.
func (s system) isFull(n int, flow api.Range) bool { return flow.Hi > s.Scales[n].Volume }

// fullError asks for a draw with which no flow is greater than the Volume of its scale.
func (s system) fullError(draw int) api.Errno {
	flows := s.flows(draw)
	_, e := checks.Each(len(flows), func(n int) api.Errno { return checks.Unless(!s.isFull(n, flows[n]), api.ErrFull) })
	return e
}

// Flows returns the flows of all scales.
func Flows(s api.PlanSystem, draw int) ([]api.Range, api.Errno) {
	checked, e := systemOf(s)
	if e := checks.First(e, drawError(draw)); e != api.OK {
		return nil, e
	}
	return checked.flows(draw), api.OK
}

// An age is an exact one, num / den: those of several scales together may outgrow an int on the way.
type age struct{ num, den exact.Nat }

func (a age) plus(num, den int) age {
	more, times := exact.Of(num), exact.Of(den)
	return age{num: a.num.Times(times).Plus(more.Times(a.den)), den: a.den.Times(times)}
}

// rounded is the age, rounded down and up.
func (a age) rounded() api.Range {
	quotient, rest := a.num.Over(a.den)
	n, _ := quotient.Int()
	if rest.IsZero() {
		return api.Range{Lo: n, Hi: n}
	}
	return api.Range{Lo: n, Hi: n + 1}
}

// steady is the steady age of a scale by an end of all flows, which is not 0 for this scale (and so for no further one).
func (s system) steady(n int, flows []api.Range, end func(flow api.Range) int) api.Range {
	sum := age{num: exact.Of(s.New), den: exact.Of(1)}
	for i, x := range s.Scales[n:] {
		sum = sum.plus(thousand*x.Volume, end(flows[n+i]))
	}
	return sum.rounded()
}

func lessLost(flow api.Range) int { return flow.Lo }

func moreLost(flow api.Range) int { return flow.Hi }

// Steady returns the steady ages of all scales.
func Steady(s api.PlanSystem, draw int) ([]api.Range, api.Errno) {
	checked, e := systemOf(s)
	if e := checks.First(e, drawError(draw)); e != api.OK {
		return nil, e
	}
	flows := checked.flows(draw)
	hasNone := slices.ContainsFunc(flows, func(flow api.Range) bool { return flow.Lo == 0 })
	if e := checks.First(checks.Unless(!hasNone, api.ErrZero), checked.fullError(draw)); e != api.OK {
		return nil, e
	}
	ages := make([]api.Range, len(flows))
	for n := range ages {
		ages[n] = api.Range{Lo: checked.steady(n, flows, moreLost).Lo, Hi: checked.steady(n, flows, lessLost).Hi}
	}
	return ages, api.OK
}
