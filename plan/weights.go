package plan

import (
	"criadera/api"
	"criadera/checks"
	"criadera/rows"
)

func (p programme) weightsError(w api.PlanWeights) api.Errno {
	return checks.First(
		checks.Unless(len(w.Demands) == len(p.Demands) && len(w.Top) == len(p.Most), api.ErrShape),
		checks.Number(w.Den, 1, api.MaxPlanWeight),
		checks.Numbers(w.Demands, 0, api.MaxPlanWeight),
		checks.Numbers(w.Top, 0, api.MaxPlanWeight))
}

// isPut tells whether weights put at least so much on each draw.
func (p programme) isPut(w api.PlanWeights, least []int) bool {
	for i, put := range w.Top {
		for n, d := range p.Demands {
			put += w.Demands[n] * d.Coefs[i]
		}
		if put < least[i]*w.Den {
			return false
		}
	}
	return true
}

// bound is the bound of weights, times their Den.
func (p programme) bound(w api.PlanWeights) int {
	sum := rows.ComesTo(p.Most, w.Top)
	for n, d := range p.Demands {
		sum += w.Demands[n] * d.Amount
	}
	return sum
}

// CheckWeights accepts weights that prove a bound, and returns it.
func CheckWeights(p api.PlanProgram, w api.PlanWeights) (api.Frac, api.Errno) {
	return asked(p, func(p programme) (api.Frac, api.Errno) {
		if e := p.weightsError(w); e != api.OK {
			return api.Frac{}, e
		}
		if !p.isPut(w, p.Gain) {
			return api.Frac{}, api.ErrProof
		}
		return fraction(p.bound(w), w.Den)
	})
}

// CheckRefuted accepts weights that refute a programme.
func CheckRefuted(p api.PlanProgram, w api.PlanWeights) api.Errno {
	_, e := asked(p, func(p programme) (bool, api.Errno) {
		if e := p.weightsError(w); e != api.OK {
			return false, e
		}
		isRefuted := p.isPut(w, make([]int, len(p.Most))) && p.bound(w) < 0
		return isRefuted, checks.Unless(isRefuted, api.ErrProof)
	})
	return e
}
