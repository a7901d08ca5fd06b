package flor

import (
	"criadera/api"
	"criadera/checks"
)

// lostOf is how many millionths are lost in some days: less than all of them, since rates and days have limits.
func lostOf(rate api.Range, days int) api.Range {
	return api.Range{Lo: rate.Lo * days, Hi: rate.Hi * days}
}

// leftOf is how many millionths are left behind some days.
func leftOf(rate api.Range, days int) api.Range {
	lost := lostOf(rate, days)
	return api.Range{Lo: api.Million - lost.Hi, Hi: api.Million - lost.Lo}
}

func (w checked) strengthAfter(r api.FlorRate, days int) api.Range {
	return scaled(w.Strength, leftOf(r.Alcohol, days), leftOf(r.Wine, days))
}

// after is the wine behind some days, unless its strength or its sugar may be too great.
func (w checked) after(r api.FlorRate, days int) (checked, api.Errno) {
	whole, left := exactly(api.Million), leftOf(r.Wine, days)
	out := checked{api.FlorWine{
		Volume:   scaled(w.Volume, left, whole),
		Strength: w.strengthAfter(r, days),
		Sugar:    scaled(w.Sugar, whole, left),
	}}
	if out.mostStrength() > api.MaxStrength || out.mostSugar() > api.MaxContent {
		return checked{}, api.ErrLarge
	}
	return out, api.OK
}

// After returns the wine behind some days.
func After(w api.FlorWine, r api.FlorRate, days int) (api.FlorWine, api.Errno) {
	if e := checks.First(CheckWine(w), CheckRate(r), daysError(days)); e != api.OK {
		return api.FlorWine{}, e
	}
	out, e := checked{w}.after(r, days)
	return out.FlorWine, e
}

// Over returns the wine behind spells, or the number of the first one with an error.
func Over(w api.FlorWine, l []api.FlorSpell) (api.FlorWine, int, api.Errno) {
	if e := checks.First(CheckWine(w), checks.Unless(len(l) <= api.MaxFlorSpells, api.ErrLarge)); e != api.OK {
		return api.FlorWine{}, 0, e
	}
	for n, spell := range l {
		var e api.Errno
		if w, e = After(w, spell.Rate, spell.Days); e != api.OK {
			return api.FlorWine{}, n, e
		}
	}
	return w, 0, api.OK
}

// LossOf returns how much wine is lost in some days.
func LossOf(w api.FlorWine, r api.FlorRate, days int) (api.Range, api.Errno) {
	if e := checks.First(CheckWine(w), CheckRate(r), daysError(days)); e != api.OK {
		return api.Range{}, e
	}
	return scaled(w.Volume, lostOf(r.Wine, days), exactly(api.Million)), api.OK
}

// SafeDays returns for how many days a wine surely keeps a strength. It asks day by day, and not After, which would refuse a wine whose greatest strength is too great.
func SafeDays(w api.FlorWine, r api.FlorRate, strength int) (int, api.Errno) {
	if e := checks.First(CheckWine(w), CheckRate(r), strengthError(strength), checks.Unless(w.Strength.Lo >= strength, api.ErrBreak)); e != api.OK {
		return 0, e
	}
	days := 0
	for days < api.Year && (checked{w}).strengthAfter(r, days+1).Lo >= strength {
		days++
	}
	return days, api.OK
}
