package age

import (
	"slices"

	"criadera/api"
	"criadera/exact"
)

// ageSums is the age sums of all casks (0 of those that are not settled), times a denominator that comes with them.
func (c *system) ageSums() (row, exact.Nat) {
	settled := c.settled()
	solved, den := solve(c.equations(settled))
	sums := make(row, len(c.Casks))
	for i, cask := range settled {
		sums[cask] = solved[i]
	}
	return sums, den
}

// equations has a row for each of the casks: how often its own sum is as much as all others, so many times, and a number at the end. All of these numbers are from 0 on.
func (c *system) equations(casks []int) []row {
	l := make([]row, 0, len(casks))
	starts := rowOf(c.starts())
	for i, cask := range casks {
		equation := make(row, 0, len(casks)+1)
		for _, from := range casks {
			equation = append(equation, exact.Of(c.Rows[cask][from]))
		}
		equation[i] = exact.Of(c.Den).Minus(equation[i])
		l = append(l, append(equation, starts.against(c.Rows[cask])))
	}
	return l
}

// solve puts what each equation tells of its own number into all others. Each number of the equations stays a minor of the first ones, so that the former own number divides all of them (as Bareiss found), and none comes below 0, since wine of all these casks goes away in the end.
func solve(l []row) (row, exact.Nat) {
	den := exact.Of(1)
	for p := range l {
		before := den
		den = l[p][p]
		for i := range l {
			if i != p {
				l[i] = replaced(l[i], i, l[p], p).over(before)
			}
		}
	}
	solved := make(row, 0, len(l))
	for _, equation := range l {
		solved = append(solved, equation[len(l)])
	}
	return solved, den
}

// replaced is the equation of the number i in which the number p is replaced by what its own equation tells.
func replaced(equation row, i int, by row, p int) row {
	out := equation.times(by[p]).plus(by.times(equation[p]))
	out[i] = equation[i].Times(by[p]).Minus(by[i].Times(equation[p]))
	out[p] = exact.Nat{}
	return out
}

// ProofOf returns the proof of the settled state.
func ProofOf(s api.ScaleSystem) (api.AgeProof, api.Errno) {
	return asked(s, nil, func(c *system) (api.AgeProof, api.Errno) {
		sums, den := c.ageSums()
		all := append(row{den}, sums...)
		all = all.over(all.divisor(den))
		if slices.ContainsFunc(all, func(n exact.Nat) bool { return n.Compare(exact.Of(api.MaxNumber)) > 0 }) {
			return api.AgeProof{}, api.ErrLarge
		}
		numbers := all.ints()
		return api.AgeProof{Den: numbers[0], Sums: numbers[1:]}, api.OK
	})
}

// CheckProof accepts a proof of the settled state.
func CheckProof(s api.ScaleSystem, p api.AgeProof) api.Errno {
	_, e := asked(s, conditions{fits(p), inRange(p.Den, 1, api.MaxNumber), areNumbers(p.Sums)}, func(c *system) (bool, api.Errno) {
		if !c.isProof(p) {
			return false, api.ErrProof
		}
		return true, api.OK
	})
	return e
}

// fits asks for a number for each cask.
func fits(p api.AgeProof) func(*system) api.Errno {
	return func(c *system) api.Errno {
		if len(p.Sums) != len(c.Casks) {
			return api.ErrShape
		}
		return api.OK
	}
}

func areNumbers(l []int) func(*system) api.Errno {
	return func(c *system) api.Errno {
		for _, n := range l {
			if e := inRange(n, 0, api.MaxNumber)(c); e != api.OK {
				return e
			}
		}
		return api.OK
	}
}

// isProof puts the numbers into the equations of the settled casks, which have one solution only.
func (c *system) isProof(p api.AgeProof) bool {
	settled := c.settled()
	ages := rowOf(p.Sums).plus(rowOf(c.starts()).times(exact.Of(p.Den)))
	for cask, n := range p.Sums {
		if !slices.Contains(settled, cask) {
			if n != 0 {
				return false
			}
			continue
		}
		if exact.Of(n).Times(exact.Of(c.Den)).Compare(ages.against(c.Rows[cask])) != 0 {
			return false
		}
	}
	return true
}
