package round

import (
	"cmp"
	"slices"

	"criadera/api"
	"criadera/checks"
)

// A state is a checked one. It has nothing where the plant has no vessel, so that states are the same if they are equal.
type state struct{ content, wine [api.MaxRoundVessels]int }

func (p plant) stateOf(s api.RoundState) (state, api.Errno) {
	if e := p.stateError(s); e != api.OK {
		return state{}, e
	}
	var x state
	copy(x.content[:], s.Content)
	copy(x.wine[:], s.Wine)
	return x, api.OK
}

func (p plant) stateError(s api.RoundState) api.Errno {
	vessels := len(p.Vessels)
	if len(s.Content) != vessels || len(s.Wine) != vessels {
		return api.ErrShape
	}
	_, e := checks.Each(vessels, func(n int) api.Errno {
		return checks.First(
			checks.Number(s.Content[n], 0, p.Vessels[n].Size),
			checks.Number(s.Wine[n], 0, api.MaxRoundWines),
			checks.Unless((s.Content[n] == 0) == (s.Wine[n] == 0), api.ErrClash))
	})
	return e
}

// told is a state as a result.
func (p plant) told(s state) api.RoundState {
	vessels := len(p.Vessels)
	return api.RoundState{Content: slices.Clone(s.content[:vessels]), Wine: slices.Clone(s.wine[:vessels])}
}

// compare is below 0 if a state stands ahead of another one in a layer.
func compare(a, b state) int {
	return cmp.Or(slices.Compare(a.content[:], b.content[:]), slices.Compare(a.wine[:], b.wine[:]))
}

// moved is the state when so much went from a vessel into another one.
func (s state) moved(from, to, amount int) state {
	s.content[from] -= amount
	s.content[to] += amount
	s.wine[to] = s.wine[from]
	if s.content[from] == 0 {
		s.wine[from] = 0
	}
	return s
}

// takes tells whether a vessel may take the wine of another one.
func (s state) takes(to, from int) bool { return s.wine[to] == 0 || s.wine[to] == s.wine[from] }

// stoodOf checks a plant and a state of it.
func stoodOf(p api.RoundPlant, s api.RoundState) (plant, state, api.Errno) {
	checked, e := plantOf(p)
	if e != api.OK {
		return plant{}, state{}, e
	}
	x, e := checked.stateOf(s)
	return checked, x, e
}

// CheckState returns the first error of a state.
func CheckState(p api.RoundPlant, s api.RoundState) api.Errno {
	_, _, e := stoodOf(p, s)
	return e
}

// Total returns how much there is of a wine.
func Total(p api.RoundPlant, s api.RoundState, wine int) (int, api.Errno) {
	_, x, e := stoodOf(p, s)
	if e := checks.First(e, checks.Number(wine, 1, api.MaxRoundWines)); e != api.OK {
		return 0, e
	}
	sum := 0
	for vessel, content := range x.content {
		if x.wine[vessel] == wine {
			sum += content
		}
	}
	return sum, api.OK
}
