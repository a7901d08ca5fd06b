package round

import (
	"slices"

	"criadera/api"
	"criadera/checks"
)

// mostHoses is how many hoses a plant has, at most.
const mostHoses = 30

// CheckPlant returns the first error of a plant, and the number of its vessel or of its hose (0 if none is named).
func CheckPlant(p api.RoundPlant) (int, api.Errno) {
	vessels := len(p.Vessels)
	if e := checks.First(
		checks.Unless(vessels > 0, api.ErrShape),
		checks.Unless(vessels <= api.MaxRoundVessels, api.ErrLarge)); e != api.OK {
		return 0, e
	}
	names := namesOf(p.Vessels)
	if n, e := checks.Each(vessels, func(n int) api.Errno {
		return checks.First(
			checks.Name(names[n]),
			checks.Unless(!slices.Contains(names[:n], names[n]), api.ErrExists),
			checks.Number(p.Vessels[n].Size, 1, api.MaxRoundSize))
	}); e != api.OK {
		return n, e
	}
	if len(p.Hoses) > mostHoses {
		return 0, api.ErrLarge
	}
	return checks.Each(len(p.Hoses), func(n int) api.Errno {
		hose := p.Hoses[n]
		return checks.First(
			checks.Elements(hose[:], vessels),
			checks.Unless(hose[0] != hose[1], api.ErrZero),
			checks.Unless(!slices.Contains(p.Hoses[:n], hose), api.ErrDouble))
	})
}

func namesOf(vessels []api.RoundVessel) []string {
	l := make([]string, 0, len(vessels))
	for _, v := range vessels {
		l = append(l, v.Name)
	}
	return l
}

// A plant is a checked one, with the moves for which there are hoses, ascending.
type plant struct {
	api.RoundPlant
	moves []api.RoundMove
}

func plantOf(p api.RoundPlant) (plant, api.Errno) {
	if _, e := CheckPlant(p); e != api.OK {
		return plant{}, e
	}
	hoses := slices.SortedFunc(slices.Values(p.Hoses), func(a, b [2]int) int { return slices.Compare(a[:], b[:]) })
	checked := plant{RoundPlant: p}
	for _, hose := range hoses {
		checked.moves = append(checked.moves, api.RoundMove{From: hose[0], To: hose[1]})
	}
	return checked, api.OK
}

func (p plant) vesselError(vessel int) api.Errno { return checks.Element(vessel, len(p.Vessels)) }

// bothError asks for the two vessels of a move or of an act.
func (p plant) bothError(from, to int) api.Errno {
	return checks.First(p.vesselError(from), p.vesselError(to))
}
