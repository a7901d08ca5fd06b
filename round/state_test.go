package round

import (
	"fmt"
	"testing"

	"criadera/api"
)

// TestCheckState: P9.1.
func TestCheckState(t *testing.T) {
	for _, s := range []api.RoundState{
		eight(), filled(0, 0, 0), filled(8, 5, 3), filled(1, 1, 1), stand(numbers(1, 5, 2), numbers(3, 2, 1)), stand(numbers(0, 5, 2), numbers(0, 3, 3)),
	} {
		want(t, fmt.Sprint(s), 0, CheckState(three(), s), 0, api.OK)
	}
	want(t, "one vessel", 0, CheckState(full(50), stand(numbers(50), numbers(3))), 0, api.OK)
	for _, x := range wrongStates() {
		want(t, fmt.Sprint(x.s), 0, CheckState(three(), x.s), 0, x.e)
	}
}

// TestTotal: P9.1.
func TestTotal(t *testing.T) {
	s := stand(numbers(3, 5, 2), numbers(2, 1, 2))
	for wine, total := range numbers(0, 5, 5, 0) {
		if wine > 0 {
			n, e := Total(three(), s, wine)
			want(t, fmt.Sprint("of the wine ", wine), n, e, total, api.OK)
		}
	}
	n, e := Total(most(), filled(1, 2, 3, 4, 5, 6), 1)
	want(t, "of all that there is", n, e, 21, api.OK)
	n, e = Total(three(), filled(0, 0, 0), 3)
	want(t, "of nothing", n, e, 0, api.OK)
	for _, wine := range outside(1, 3) {
		n, e := Total(three(), s, wine)
		refused(t, fmt.Sprint("of the wine ", wine), n, e, api.ErrRange)
	}
}

// TestWrongStates: R1: the errors of a state come ahead of those of what stands behind it, and behind those of what stands ahead of it.
func TestWrongStates(t *testing.T) {
	p := three()
	askings := map[string]func(s api.RoundState) (bool, api.Errno){
		"Total":  func(s api.RoundState) (bool, api.Errno) { return nothing(Total(p, s, 0)) },
		"Apply":  func(s api.RoundState) (bool, api.Errno) { return nothing(Apply(p, s, move(-1, -1))) },
		"Moves":  func(s api.RoundState) (bool, api.Errno) { return nothing(Moves(p, s)) },
		"Run":    func(s api.RoundState) (bool, api.Errno) { return nothings(Run(p, s, make([]api.RoundMove, 501))) },
		"Meets":  func(s api.RoundState) (bool, api.Errno) { return nothing(Meets(p, half(), s)) },
		"Layers": func(s api.RoundState) (bool, api.Errno) { return nothing(Layers(p, s)) },
		"Amounts": func(s api.RoundState) (bool, api.Errno) {
			return nothing(Amounts(p, s, -1))
		},
		"CheckLayers": func(s api.RoundState) (bool, api.Errno) {
			return nothing(CheckLayers(p, half(), [][]api.RoundState{states(4, 4, 0), nil, {eight(), s, {}}}))
		},
		"CheckClosed": func(s api.RoundState) (bool, api.Errno) {
			return nothing(CheckClosed(p, half(), []api.RoundState{filled(4, 4, 0), s, eight(), eight()}))
		},
		"TaskOf": func(s api.RoundState) (bool, api.Errno) { return nothing(TaskOf(p, s, make([]api.RoundAct, 21))) },
	}
	for _, x := range wrongStates() {
		allRefuse(t, fmt.Sprint(x.s), x.s, askings, x.e)
	}
}
