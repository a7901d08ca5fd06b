package gauge

import (
	"criadera/api"
	"criadera/checks"
)

func stationError(s api.GaugeStation, bung int) api.Errno {
	return checks.First(
		checks.Number(s.At, 0, api.MaxGaugeLength),
		checks.Number(s.Inner, api.LeastGaugeRadius, bung),
		checks.Number(s.Outer, api.LeastGaugeRadius, bung),
		checks.Unless(s.Inner <= s.Outer, api.ErrOrder))
}

// CheckCask returns the first error of a cask, and the number of its station (0 if none is named).
func CheckCask(c api.GaugeCask) (int, api.Errno) {
	if e := checks.First(
		checks.Name(c.Name),
		checks.Number(c.Bung, api.LeastGaugeRadius, api.MaxGaugeRadius),
		checks.Unless(len(c.Stations) >= 2, api.ErrShape),
		checks.Unless(len(c.Stations) <= api.MaxGaugeStations, api.ErrLarge)); e != api.OK {
		return 0, e
	}
	return firstWrong(c.Stations,
		func(s api.GaugeStation) api.Errno { return stationError(s, c.Bung) },
		func(before, s api.GaugeStation) bool { return before.At < s.At })
}

// A vessel is a checked cask: what was told, and what lies between its stations.
type vessel struct {
	api.GaugeCask
	stretches []stretch
}

// A stretch is what lies between two neighbouring stations: its length, and the areas of the narrowest and of the widest circle there.
type stretch struct {
	length       int
	inner, outer areas
}

func vesselOf(c api.GaugeCask) (vessel, api.Errno) {
	if _, e := CheckCask(c); e != api.OK {
		return vessel{}, e
	}
	out := vessel{GaugeCask: c}
	for n, s := range c.Stations[1:] {
		before := c.Stations[n]
		out.stretches = append(out.stretches, stretch{
			length: s.At - before.At,
			inner:  areasOf(min(before.Inner, s.Inner)),
			outer:  areasOf(max(before.Outer, s.Outer)),
		})
	}
	return out, api.OK
}

// deepest is the greatest dip.
func (c vessel) deepest() int { return 2 * c.Bung }

func (c vessel) dipError(dip int) api.Errno { return checks.Number(dip, 0, c.deepest()) }
