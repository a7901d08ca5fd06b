package plan

import (
	"slices"

	"criadera/api"
	"criadera/checks"
)

// CheckProgram returns the first error of a programme, and the number of its demand (0 if none is named).
func CheckProgram(p api.PlanProgram) (int, api.Errno) {
	draws := len(p.Most)
	if e := checks.First(
		checks.Unless(draws > 0 && len(p.Gain) == draws, api.ErrShape),
		checks.Unless(draws <= api.MaxPlanDraws, api.ErrLarge),
		checks.Numbers(p.Most, 0, api.MaxPlanAmount),
		checks.Numbers(p.Gain, -api.MaxPlanCoef, api.MaxPlanCoef),
		checks.Unless(len(p.Demands) <= api.MaxPlanDemands, api.ErrLarge)); e != api.OK {
		return 0, e
	}
	return checks.Each(len(p.Demands), func(n int) api.Errno { return demandError(p.Demands[n], p.Demands[:n], draws) })
}

func demandError(d api.PlanDemand, earlier []api.PlanDemand, draws int) api.Errno {
	isThere := slices.ContainsFunc(earlier, func(other api.PlanDemand) bool { return other.Name == d.Name })
	return checks.First(
		checks.Name(d.Name),
		checks.Unless(!isThere, api.ErrExists),
		checks.Unless(len(d.Coefs) == draws, api.ErrShape),
		checks.Numbers(d.Coefs, -api.MaxPlanCoef, api.MaxPlanCoef),
		checks.Number(d.Amount, -api.MaxPlanAmount, api.MaxPlanAmount))
}

// A programme is a checked one.
type programme struct{ api.PlanProgram }

// asked returns what is asked of a programme, if it is right.
func asked[T any](p api.PlanProgram, ask func(p programme) (T, api.Errno)) (T, api.Errno) {
	var none T
	if _, e := CheckProgram(p); e != api.OK {
		return none, e
	}
	answer, e := ask(programme{p})
	if e != api.OK {
		return none, e
	}
	return answer, api.OK
}

// with is the programme with these demands in the place of its own. It shares no memory with any of them.
func (p programme) with(demands ...api.PlanDemand) programme {
	out := api.PlanProgram{Most: slices.Clone(p.Most), Gain: slices.Clone(p.Gain)}
	for _, d := range demands {
		d.Coefs = slices.Clone(d.Coefs)
		out.Demands = append(out.Demands, d)
	}
	return programme{out}
}

// without is the programme without a demand.
func (p programme) without(n int) programme {
	return p.with(slices.Concat(p.Demands[:n], p.Demands[n+1:])...)
}

// Without returns a programme without a demand.
func Without(p api.PlanProgram, demand int) (api.PlanProgram, api.Errno) {
	return asked(p, func(p programme) (api.PlanProgram, api.Errno) {
		if e := checks.Element(demand, len(p.Demands)); e != api.OK {
			return api.PlanProgram{}, e
		}
		return p.without(demand).PlanProgram, api.OK
	})
}
