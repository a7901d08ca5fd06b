package round

import (
	"slices"

	"criadera/api"
	"criadera/checks"
)

// Layers returns the layers of a state.
func Layers(p api.RoundPlant, s api.RoundState) ([][]api.RoundState, api.Errno) {
	checked, x, e := stoodOf(p, s)
	if e != api.OK {
		return nil, e
	}
	layers, e := checked.layers(x)
	var out [][]api.RoundState
	for _, layer := range layers {
		var l []api.RoundState
		for _, s := range layer {
			l = append(l, checked.told(s))
		}
		out = append(out, l)
	}
	return out, e
}

// searchedOf checks a task, and returns it with the layers of its state at first.
func searchedOf(p api.RoundPlant, t api.RoundTask) (task, [][]state, api.Errno) {
	checked, e := toDo(p, t)
	if e != api.OK {
		return task{}, nil, e
	}
	layers, e := checked.layers(checked.start)
	return checked, layers, e
}

// Distance returns the distance of a task.
func Distance(p api.RoundPlant, t api.RoundTask) (int, api.Errno) {
	checked, layers, e := searchedOf(p, t)
	if e != api.OK {
		return 0, e
	}
	n, _, ok := first(layers, checked)
	return n, checks.Unless(ok, api.ErrNone)
}

// Fewest returns fewest moves that carry out a task.
func Fewest(p api.RoundPlant, t api.RoundTask) ([]api.RoundMove, api.Errno) {
	checked, layers, e := searchedOf(p, t)
	if e != api.OK {
		return nil, e
	}
	way, ok := checked.wayTo(checked, layers)
	return way, checks.Unless(ok, api.ErrNone)
}

// CheckMoves accepts moves that carry out a task, and returns how many there are.
func CheckMoves(p api.RoundPlant, t api.RoundTask, l []api.RoundMove) (int, api.Errno) {
	checked, e := toDo(p, t)
	if e != api.OK {
		return 0, e
	}
	s, _, e := checked.run(checked.start, l)
	switch {
	case e != api.OK:
		return 0, e
	case !checked.isMetBy(s):
		return 0, api.ErrProof
	}
	return len(l), api.OK
}

// Amounts returns all contents that a vessel has in states that can be reached.
func Amounts(p api.RoundPlant, s api.RoundState, vessel int) ([]int, api.Errno) {
	checked, x, e := stoodOf(p, s)
	if e := checks.First(e, checked.vesselError(vessel)); e != api.OK {
		return nil, e
	}
	layers, e := checked.layers(x)
	var l []int
	for _, s := range slices.Concat(layers...) {
		l = append(l, s.content[vessel])
	}
	slices.Sort(l)
	return slices.Compact(l), e
}
