package round

import (
	"slices"

	"criadera/api"
)

// A goal is what states are looked for by: a task, or a step.
type goal interface{ isMetBy(s state) bool }

// first is the first state, layer by layer, that meets a goal, with the number of its layer, and whether there is one.
func first(layers [][]state, g goal) (int, state, bool) {
	for n, layer := range layers {
		if i := slices.IndexFunc(layer, g.isMetBy); i >= 0 {
			return n, layer[i], true
		}
	}
	return 0, state{}, false
}

// A step is the last move to a state. States from which such a move leads there meet it.
type step struct {
	plant
	to state
}

// from is a move that leads there from a state, and whether there is one.
func (x step) from(s state) (api.RoundMove, bool) {
	for _, m := range x.open(s) {
		if x.pour(s, m) == x.to {
			return m, true
		}
	}
	return api.RoundMove{}, false
}

func (x step) isMetBy(s state) bool {
	_, ok := x.from(s)
	return ok
}

// wayTo is fewest moves that lead through the layers to a state that meets a goal, and whether there is one.
func (p plant) wayTo(g goal, layers [][]state) ([]api.RoundMove, bool) {
	n, to, ok := first(layers, g)
	var way []api.RoundMove
	for ; n > 0; n-- {
		last := step{p, to}
		_, from, _ := first(layers[n-1:n], last)
		m, _ := last.from(from)
		way = append(way, m)
		to = from
	}
	slices.Reverse(way)
	return way, ok
}
