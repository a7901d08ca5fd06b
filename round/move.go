package round

import (
	"slices"

	"criadera/api"
	"criadera/checks"
)

// moveError asks for a move that can be done.
func (p plant) moveError(s state, m api.RoundMove) api.Errno {
	if e := p.bothError(m.From, m.To); e != api.OK {
		return e
	}
	return checks.First(
		checks.Unless(slices.Contains(p.moves, m), api.ErrAllowed),
		p.pourError(s, m))
}

// pourError asks for a move, for which there is a hose, that can be done.
func (p plant) pourError(s state, m api.RoundMove) api.Errno {
	return checks.First(
		checks.Unless(s.content[m.From] > 0, api.ErrNone),
		checks.Unless(p.room(s, m.To) > 0, api.ErrFull),
		checks.Unless(s.takes(m.To, m.From), api.ErrClash))
}

func (p plant) room(s state, vessel int) int { return p.Vessels[vessel].Size - s.content[vessel] }

// pour is the state behind a move that can be done.
func (p plant) pour(s state, m api.RoundMove) state {
	return s.moved(m.From, m.To, min(s.content[m.From], p.room(s, m.To)))
}

// apply is the state behind a move.
func (p plant) apply(s state, m api.RoundMove) (state, api.Errno) {
	if e := p.moveError(s, m); e != api.OK {
		return state{}, e
	}
	return p.pour(s, m), api.OK
}

// open is all moves that can be done, ascending.
func (p plant) open(s state) []api.RoundMove {
	return slices.DeleteFunc(slices.Clone(p.moves), func(m api.RoundMove) bool { return p.pourError(s, m) != api.OK })
}

// ahead is all states that one move leads to from some states, each one as often as one does.
func (p plant) ahead(states []state) []state {
	var l []state
	for _, s := range states {
		for _, m := range p.open(s) {
			l = append(l, p.pour(s, m))
		}
	}
	return l
}

// follow does steps of a list one after the other, and returns the state behind them, or the number of the first wrong one and its error.
func follow[T any](s state, l []T, step func(s state, x T) (state, api.Errno)) (state, int, api.Errno) {
	for n, x := range l {
		next, e := step(s, x)
		if e != api.OK {
			return state{}, n, e
		}
		s = next
	}
	return s, 0, api.OK
}

// run is the state behind moves, or the number of the first wrong one and its error.
func (p plant) run(s state, l []api.RoundMove) (state, int, api.Errno) {
	if len(l) > api.MaxRoundMoves {
		return state{}, 0, api.ErrLarge
	}
	return follow(s, l, p.apply)
}

// Apply returns the state behind a move.
func Apply(p api.RoundPlant, s api.RoundState, m api.RoundMove) (api.RoundState, api.Errno) {
	checked, x, e := stoodOf(p, s)
	if e != api.OK {
		return api.RoundState{}, e
	}
	next, e := checked.apply(x, m)
	if e != api.OK {
		return api.RoundState{}, e
	}
	return checked.told(next), api.OK
}

// Moves returns all moves that can be done.
func Moves(p api.RoundPlant, s api.RoundState) ([]api.RoundMove, api.Errno) {
	checked, x, e := stoodOf(p, s)
	if e != api.OK {
		return nil, e
	}
	return checked.open(x), api.OK
}

// Run returns the state behind moves, or the number of the first wrong one and its error.
func Run(p api.RoundPlant, s api.RoundState, l []api.RoundMove) (api.RoundState, int, api.Errno) {
	checked, x, e := stoodOf(p, s)
	if e != api.OK {
		return api.RoundState{}, 0, e
	}
	end, n, e := checked.run(x, l)
	if e != api.OK {
		return api.RoundState{}, n, e
	}
	return checked.told(end), 0, api.OK
}
