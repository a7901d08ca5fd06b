package flor

import (
	"criadera/api"
	"criadera/checks"
	"criadera/ranges"
)

// A checked wine is a wine that was told, and is right.
type checked struct{ api.FlorWine }

// An end is what a wine has of something, at least or at most.
type end func(w checked) int

func (w checked) leastVolume() int { return w.Volume.Lo }

func (w checked) mostVolume() int { return w.Volume.Hi }

func (w checked) leastStrength() int { return w.Strength.Lo }

func (w checked) mostStrength() int { return w.Strength.Hi }

func (w checked) leastSugar() int { return w.Sugar.Lo }

func (w checked) mostSugar() int { return w.Sugar.Hi }

func (w checked) leastAlcohol() int { return w.Volume.Lo * w.Strength.Lo }

func (w checked) mostAlcohol() int { return w.Volume.Hi * w.Strength.Hi }

// common is what two wines have in common, and whether this is anything.
func (w checked) common(with checked) (checked, bool) {
	both := api.FlorWine{Volume: ranges.Common(w.Volume, with.Volume), Strength: ranges.Common(w.Strength, with.Strength), Sugar: ranges.Common(w.Sugar, with.Sugar)}
	return checked{both}, !ranges.IsNothing(both.Volume) && !ranges.IsNothing(both.Strength) && !ranges.IsNothing(both.Sugar)
}

// LegalIs returns whether a wine has a strength and a sugar that a law permits.
func LegalIs(w api.FlorWine, x api.FlorLaw) (int, api.Errno) {
	if e := checks.First(CheckWine(w), CheckLaw(x)); e != api.OK {
		return 0, e
	}
	return answer(bound{w.Strength, x.Strength}, bound{w.Sugar, x.Sugar}), api.OK
}
