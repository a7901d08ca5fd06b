package round

import (
	"slices"
	"testing"

	"criadera/api"
)

// TestCheckPlant: P9.1.
func TestCheckPlant(t *testing.T) {
	for what, p := range map[string]api.RoundPlant{
		"the chapter's plant":              three(),
		"that of the second example":       two(),
		"one vessel":                       full(1),
		"the most vessels and hoses":       most(),
		"no hoses":                         build(nil, 5, 5),
		"hoses in another order":           build(pairs(2, 1, 0, 2, 1, 2, 0, 1), 1, 1, 1),
		"the least and the greatest size":  full(1, 50),
		"the longest name":                 changed(func(p *api.RoundPlant) { p.Vessels[0].Name = "abcdefghij-9" }),
		"names that differ in their cases": changed(func(p *api.RoundPlant) { p.Vessels[1].Name = "A" }),
		"a vessel named more":              changed(func(p *api.RoundPlant) { p.Vessels[1].Name = "more" }),
		"a hose to and fro":                build(pairs(1, 0, 0, 1), 2, 2),
	} {
		n, e := CheckPlant(p)
		want(t, what, n, e, 0, api.OK)
	}
	for _, x := range wrongPlants() {
		n, e := CheckPlant(x.p)
		want(t, x.what, n, e, x.n, x.e)
	}
	many := three()
	many.Vessels, many.Hoses = make([]api.RoundVessel, 1000000), make([][2]int, 1000000)
	n, e := CheckPlant(many)
	want(t, "a million of both", n, e, 0, api.ErrLarge)
}

// TestWrongPlants: R1: the errors of a plant come ahead of all others.
func TestWrongPlants(t *testing.T) {
	s, task := api.RoundState{}, api.RoundTask{}
	askings := map[string]func(p api.RoundPlant) (bool, api.Errno){
		"CheckState": func(p api.RoundPlant) (bool, api.Errno) { return only(CheckState(p, s)) },
		"Total":      func(p api.RoundPlant) (bool, api.Errno) { return nothing(Total(p, s, 0)) },
		"Apply":      func(p api.RoundPlant) (bool, api.Errno) { return nothing(Apply(p, s, move(-1, -1))) },
		"Moves":      func(p api.RoundPlant) (bool, api.Errno) { return nothing(Moves(p, s)) },
		"Run":        func(p api.RoundPlant) (bool, api.Errno) { return nothings(Run(p, s, make([]api.RoundMove, 501))) },
		"CheckTask":  func(p api.RoundPlant) (bool, api.Errno) { return only(CheckTask(p, task)) },
		"Meets":      func(p api.RoundPlant) (bool, api.Errno) { return nothing(Meets(p, task, s)) },
		"Layers":     func(p api.RoundPlant) (bool, api.Errno) { return nothing(Layers(p, s)) },
		"Distance":   func(p api.RoundPlant) (bool, api.Errno) { return nothing(Distance(p, task)) },
		"Fewest":     func(p api.RoundPlant) (bool, api.Errno) { return nothing(Fewest(p, task)) },
		"CheckMoves": func(p api.RoundPlant) (bool, api.Errno) {
			return nothing(CheckMoves(p, task, make([]api.RoundMove, 501)))
		},
		"CheckLayers": func(p api.RoundPlant) (bool, api.Errno) {
			return nothing(CheckLayers(p, task, make([][]api.RoundState, 4001)))
		},
		"CheckClosed": func(p api.RoundPlant) (bool, api.Errno) {
			return nothing(CheckClosed(p, task, make([]api.RoundState, 4001)))
		},
		"Divisor":      func(p api.RoundPlant) (bool, api.Errno) { return nothing(Divisor(p, task)) },
		"CheckDivisor": func(p api.RoundPlant) (bool, api.Errno) { return only(CheckDivisor(p, task, 0)) },
		"Amounts":      func(p api.RoundPlant) (bool, api.Errno) { return nothing(Amounts(p, s, -1)) },
		"WithVessel":   func(p api.RoundPlant) (bool, api.Errno) { return nothings(WithVessel(p, task, 0)) },
		"WouldDo":      func(p api.RoundPlant) (bool, api.Errno) { return nothing(WouldDo(p, task, 0)) },
		"TaskOf":       func(p api.RoundPlant) (bool, api.Errno) { return nothing(TaskOf(p, s, make([]api.RoundAct, 21))) },
		"FormatMoves":  func(p api.RoundPlant) (bool, api.Errno) { return nothing(FormatMoves(p, moves(-1, -1))) },
		"ParseMoves":   func(p api.RoundPlant) (bool, api.Errno) { return nothing(ParseMoves(p, ";")) },
	}
	for _, x := range wrongPlants() {
		allRefuse(t, x.what, x.p, askings, x.e)
	}
}

// TestHosesStay: R3: the hoses of a plant keep their order.
func TestHosesStay(t *testing.T) {
	hoses := pairs(2, 1, 0, 2, 1, 2, 0, 1)
	l, e := Moves(build(hoses, 4, 4, 4), filled(1, 2, 0))
	want(t, "the moves", l, e, moves(0, 1, 0, 2, 1, 2), api.OK)
	want(t, "the hoses", hoses, 0, pairs(2, 1, 0, 2, 1, 2, 0, 1), 0)
	if !slices.Equal(every(3), three().Hoses) {
		t.Error("the hoses of three")
	}
}
