package plan

import (
	"slices"

	"criadera/api"
	"criadera/checks"
	"criadera/corners"
	"criadera/lowest"
	"criadera/ranges"
	"criadera/rows"
)

// least is an allowed point at which draws are worth least, by the worth of a decilitre of each one, and whether there is an allowed point. The first number of the corner, which is 1, stands for amounts.
func (p programme) least(worths []int) (corners.Corner, bool) {
	t := corners.Task{One: axis(0, len(p.Most)+1), Worth: slices.Concat([]int{0}, worths)}
	for _, d := range p.Demands {
		t.Planes = append(t.Planes, slices.Concat([]int{-d.Amount}, d.Coefs))
	}
	for i, most := range p.Most {
		row := axis(i+1, len(p.Most)+1)
		row[0] = -most
		t.Planes = append(t.Planes, row)
	}
	return corners.Least(t)
}

// axis is so many numbers, of which one is 1 and all others are 0.
func axis(one, many int) []int {
	l := make([]int, many)
	l[one] = 1
	return l
}

// isLess tells whether a corner is worth less than another one. A value times the other one's denominator may outgrow an int, so whole parts are compared ahead of what is left.
func isLess(a, b corners.Corner) bool {
	whole, other := ranges.Floor(a.Value, a.Den), ranges.Floor(b.Value, b.Den)
	if whole != other {
		return whole < other
	}
	return (a.Value-whole*a.Den)*b.Den < (b.Value-other*b.Den)*a.Den
}

// greatest is a corner of greatest gain (its value is the opposite of the gain), and whether any point is allowed.
func (p programme) greatest() (corners.Corner, bool) { return p.least(rows.Opposites(p.Gain)) }

func (p programme) allowsAny() bool {
	_, ok := p.least(make([]int, len(p.Most)))
	return ok
}

func (p programme) best() (api.PlanBest, api.Errno) {
	c, ok := p.greatest()
	if !ok {
		return api.PlanBest{}, api.ErrNone
	}
	gain, e := fraction(-c.Value, c.Den)
	point := lowest.Terms(c.Parts...)
	weights := lowest.Terms(append([]int{c.Den}, c.Weights...)...)
	return api.PlanBest{
		Gain:    gain,
		Point:   api.PlanPoint{Den: point[0], Parts: point[1:]},
		Weights: p.weightsOf(weights[0], weights[1:]),
	}, e
}

// weightsOf is weights of all demands and, behind them, of the Most of all draws.
func (p programme) weightsOf(den int, l []int) api.PlanWeights {
	count := len(p.Demands)
	return api.PlanWeights{Den: den, Demands: slices.Clone(l[:count]), Top: slices.Clone(l[count:])}
}

// refute looks for the first demand that does not hold at any point that those in front of it allow: what proves how much of it each of these points has, at least, refutes the programme as well, with as much of the demand itself as this is told in.
func (p programme) refute() (api.PlanWeights, api.Errno) {
	for n, d := range p.Demands {
		least, _ := p.with(p.Demands[:n]...).least(d.Coefs)
		if least.Value > d.Amount*least.Den {
			further := make([]int, len(p.Demands)-n)
			further[0] = least.Den
			return p.weightsOf(1, slices.Insert(least.Weights, n, further...)), api.OK
		}
	}
	return api.PlanWeights{}, api.ErrNone
}

// freeing is the numbers of all demands without which something is so.
func (p programme) freeing(isSo func(p programme) bool) []int {
	var l []int
	for n := range p.Demands {
		if isSo(p.without(n)) {
			l = append(l, n)
		}
	}
	return l
}

func (p programme) holding() ([]int, api.Errno) {
	c, ok := p.greatest()
	if !ok {
		return nil, api.ErrNone
	}
	return p.freeing(func(p programme) bool {
		freed, _ := p.greatest()
		return isLess(freed, c)
	}), api.OK
}

func (p programme) failing() ([]int, api.Errno) {
	return p.freeing(programme.allowsAny), checks.Unless(!p.allowsAny(), api.ErrNone)
}

// Best returns the greatest gain, an allowed point that has it, and weights that prove it.
func Best(p api.PlanProgram) (api.PlanBest, api.Errno) { return asked(p, programme.best) }

// Refute returns weights that refute a programme.
func Refute(p api.PlanProgram) (api.PlanWeights, api.Errno) { return asked(p, programme.refute) }

// Holding returns the numbers of all demands that hold back.
func Holding(p api.PlanProgram) ([]int, api.Errno) { return asked(p, programme.holding) }

// Failing returns the numbers of all demands that fail a programme.
func Failing(p api.PlanProgram) ([]int, api.Errno) { return asked(p, programme.failing) }
