package round

import (
	"slices"

	"criadera/api"
	"criadera/checks"
	"criadera/lowest"
)

// leadsInto tells whether each state that one move leads to from some states is known.
func (p plant) leadsInto(states []state, known map[state]bool) bool {
	return !slices.ContainsFunc(p.ahead(states), func(x state) bool { return !known[x] })
}

// needs tells whether lists prove that the task needs so many moves.
func (t task) needs(lists [][]state) bool {
	if len(lists) == 0 || !slices.Contains(lists[0], t.start) {
		return false
	}
	known := map[state]bool{}
	for n, list := range lists {
		for _, s := range list {
			known[s] = true
		}
		if n > 0 && !t.leadsInto(lists[n-1], known) {
			return false
		}
	}
	_, _, isMet := first(lists, t)
	return !isMet
}

// CheckLayers accepts layers that prove that a task needs moves, and returns how many.
func CheckLayers(p api.RoundPlant, t api.RoundTask, l [][]api.RoundState) (int, api.Errno) {
	checked, e := toDo(p, t)
	if e != api.OK {
		return 0, e
	}
	many := len(l)
	for _, list := range l {
		many += len(list)
	}
	if many > api.MaxRoundStates {
		return 0, api.ErrLarge
	}
	lists := make([][]state, len(l))
	for n, list := range l {
		for _, s := range list {
			x, e := checked.stateOf(s)
			if e != api.OK {
				return 0, e
			}
			lists[n] = append(lists[n], x)
		}
	}
	if !checked.needs(lists) {
		return 0, api.ErrProof
	}
	return len(l), api.OK
}

// CheckClosed accepts a closed set, and returns how many states it has.
func CheckClosed(p api.RoundPlant, t api.RoundTask, l []api.RoundState) (int, api.Errno) {
	checked, e := toDo(p, t)
	if e := checks.First(e, checks.Unless(len(l) <= api.MaxRoundStates, api.ErrLarge)); e != api.OK {
		return 0, e
	}
	var set []state
	known := map[state]bool{}
	for _, s := range l {
		x, e := checked.stateOf(s)
		if e := checks.First(e, checks.Unless(!known[x], api.ErrDouble)); e != api.OK {
			return 0, e
		}
		known[x] = true
		set = append(set, x)
	}
	isProved := known[checked.start] && checked.leadsInto(set, known) && !slices.ContainsFunc(set, checked.isMetBy)
	if !isProved {
		return 0, api.ErrProof
	}
	return len(l), api.OK
}

// divisor is the greatest number that divides all sizes and all contents at first.
func (t task) divisor() int {
	l := slices.Clone(t.Start.Content)
	for _, v := range t.Vessels {
		l = append(l, v.Size)
	}
	return lowest.Divisor(l...)
}

// Divisor returns the divisor of a task.
func Divisor(p api.RoundPlant, t api.RoundTask) (int, api.Errno) {
	checked, e := toDo(p, t)
	if e != api.OK {
		return 0, e
	}
	return checked.divisor(), api.OK
}

// CheckDivisor accepts a divisor as a proof that there is no way.
func CheckDivisor(p api.RoundPlant, t api.RoundTask, by int) api.Errno {
	checked, e := toDo(p, t)
	if e := checks.First(e, checks.Number(by, 2, api.MaxRoundSize)); e != api.OK {
		return e
	}
	isLeft := slices.ContainsFunc(t.Content, func(content int) bool { return content != api.RoundAny && content%by != 0 })
	return checks.Unless(checked.divisor()%by == 0 && isLeft, api.ErrProof)
}
