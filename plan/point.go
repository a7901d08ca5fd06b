package plan

import (
	"criadera/api"
	"criadera/checks"
	"criadera/rows"
)

// pointError asks for a point, allowed or not.
func (p programme) pointError(x api.PlanPoint) api.Errno {
	return checks.First(
		checks.Unless(len(x.Parts) == len(p.Most), api.ErrShape),
		checks.Number(x.Den, 1, api.MaxPlanWeight),
		checks.Numbers(x.Parts, 0, api.MaxNumber))
}

// askedAt returns what is asked of a programme at a point, if both are right.
func askedAt[T any](p api.PlanProgram, x api.PlanPoint, ask func(p programme, x api.PlanPoint) (T, api.Errno)) (T, api.Errno) {
	return asked(p, func(p programme) (T, api.Errno) {
		if e := p.pointError(x); e != api.OK {
			var none T
			return none, e
		}
		return ask(p, x)
	})
}

// excess is by how much a point has more than a demand allows, times Den of the point.
func excess(d api.PlanDemand, x api.PlanPoint) int {
	return rows.ComesTo(d.Coefs, x.Parts) - d.Amount*x.Den
}

// firstBroken is the number of the first demand that does not hold.
func (p programme) firstBroken(x api.PlanPoint) (int, api.Errno) {
	for n, d := range p.Demands {
		if excess(d, x) > 0 {
			return n, api.OK
		}
	}
	return 0, api.ErrNone
}

func (p programme) binding(x api.PlanPoint) ([]int, api.Errno) {
	var l []int
	for n, d := range p.Demands {
		if excess(d, x) == 0 {
			l = append(l, n)
		}
	}
	return l, api.OK
}

// gainOf is the gain of an allowed point.
func (p programme) gainOf(x api.PlanPoint) (api.Frac, api.Errno) {
	for n, most := range p.Most {
		if x.Parts[n] > most*x.Den {
			return api.Frac{}, api.ErrBreak
		}
	}
	if _, e := p.firstBroken(x); e == api.OK {
		return api.Frac{}, api.ErrClash
	}
	return fraction(rows.ComesTo(p.Gain, x.Parts), x.Den)
}

// CheckPoint accepts an allowed point, and returns its gain.
func CheckPoint(p api.PlanProgram, x api.PlanPoint) (api.Frac, api.Errno) {
	return askedAt(p, x, programme.gainOf)
}

// FirstBroken returns the number of the first demand that does not hold at a point.
func FirstBroken(p api.PlanProgram, x api.PlanPoint) (int, api.Errno) {
	return askedAt(p, x, programme.firstBroken)
}

// Binding returns the numbers of all demands that are binding at a point.
func Binding(p api.PlanProgram, x api.PlanPoint) ([]int, api.Errno) {
	return askedAt(p, x, programme.binding)
}
