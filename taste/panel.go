package taste

import (
	"criadera/api"
	"criadera/checks"
	"criadera/lowest"
)

// CheckPanel returns the first error of a panel, and the number of its taster (0 if none is named).
func CheckPanel(p api.TastePanel) (int, api.Errno) {
	glasses, tasters := len(p.Glasses), len(p.Tasters)
	if e := checks.First(
		checks.Number(p.Casks, 1, api.MaxTasteGlasses),
		checks.Number(p.Marks, 1, api.MaxTasteMarks),
		checks.Unless(glasses > 0 && tasters > 0, api.ErrShape),
		checks.Unless(glasses <= api.MaxTasteGlasses && tasters <= api.MaxTasteTasters, api.ErrLarge),
		checks.Elements(p.Glasses, p.Casks)); e != api.OK {
		return 0, e
	}
	return checks.Each(tasters, func(n int) api.Errno {
		return checks.First(
			checks.Unless(len(p.Tasters[n]) == glasses, api.ErrShape),
			checks.Elements(p.Tasters[n], p.Marks))
	})
}

// A panel is a checked one.
type panel struct{ api.TastePanel }

func panelOf(p api.TastePanel) (panel, api.Errno) {
	if _, e := CheckPanel(p); e != api.OK {
		return panel{}, e
	}
	return panel{p}, api.OK
}

func (p panel) tasterError(taster int) api.Errno { return checks.Element(taster, len(p.Tasters)) }

func shareError(least api.Frac) api.Errno {
	return checks.First(
		checks.Unless(least.Den > 0 && lowest.Divisor(least.Num, least.Den) == 1, api.ErrForm),
		checks.Unless(0 <= least.Num && least.Num <= least.Den && least.Den <= api.MaxPart, api.ErrRange))
}

func (p panel) steadiness(taster int) api.TasteSteady {
	var s api.TasteSteady
	marks := p.Tasters[taster]
	for glass, cask := range p.Glasses {
		for earlier := range glass {
			if p.Glasses[earlier] != cask {
				continue
			}
			s.Of++
			if marks[earlier] == marks[glass] {
				s.Same++
			}
		}
	}
	return s
}

// steadiest is all tasters that are steady for a least share.
func (p panel) steadiest(least api.Frac) []int {
	var l []int
	for taster := range p.Tasters {
		if s := p.steadiness(taster); s.Same*least.Den >= least.Num*s.Of {
			l = append(l, taster)
		}
	}
	return l
}

func (p panel) agreement(a, b int) api.Frac {
	same := 0
	for glass := range p.Glasses {
		if p.Tasters[a][glass] == p.Tasters[b][glass] {
			same++
		}
	}
	terms := lowest.Terms(same, len(p.Glasses))
	return api.Frac{Num: terms[0], Den: terms[1]}
}

// SteadyOf returns the steadiness of a taster.
func SteadyOf(p api.TastePanel, taster int) (api.TasteSteady, api.Errno) {
	checked, e := panelOf(p)
	if e := checks.First(e, checked.tasterError(taster)); e != api.OK {
		return api.TasteSteady{}, e
	}
	return checked.steadiness(taster), api.OK
}

// Steadiest returns all tasters that are steady for a least share.
func Steadiest(p api.TastePanel, least api.Frac) ([]int, api.Errno) {
	checked, e := panelOf(p)
	if e := checks.First(e, shareError(least)); e != api.OK {
		return nil, e
	}
	return checked.steadiest(least), api.OK
}

// AgreementOf returns the agreement of two tasters.
func AgreementOf(p api.TastePanel, a, b int) (api.Frac, api.Errno) {
	checked, e := panelOf(p)
	if e := checks.First(e, checked.tasterError(a), checked.tasterError(b)); e != api.OK {
		return api.Frac{}, e
	}
	return checked.agreement(a, b), api.OK
}
