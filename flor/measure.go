package flor

import (
	"criadera/api"
	"criadera/checks"
	"criadera/ranges"
)

func measureError(m api.FlorMeasure) api.Errno {
	return checks.First(checks.Date(m.Day), CheckWine(m.Wine))
}

// betweenError is the error of the days between two measurements.
func betweenError(a, b api.FlorMeasure) api.Errno {
	return checks.First(checks.Unless(b.Day > a.Day, api.ErrOrder), checks.Unless(b.Day-a.Day <= api.Year, api.ErrLarge))
}

// rateOf is the rate with which the one wine becomes the other one, by what both have at least and at most, as far as a rate may be.
func rateOf(before, after checked, days int, least, most end) api.Range {
	rate := api.Range{
		Lo: ranges.Floor(api.Million*(least(before)-most(after)), least(before)*days),
		Hi: ranges.Ceiling(api.Million*(most(before)-least(after)), most(before)*days),
	}
	return ranges.Common(rate, api.Range{Hi: api.MaxFlorRate})
}

// RatesOf returns the rates with which a wine may have become another one.
func RatesOf(before, after api.FlorWine, days int) (api.FlorRate, api.Errno) {
	isSome := before.Volume.Lo > 0 && before.Strength.Lo > 0
	if e := checks.First(CheckWine(before), CheckWine(after), checks.Number(days, 1, api.Year), checks.Unless(isSome, api.ErrEmpty)); e != api.OK {
		return api.FlorRate{}, e
	}
	a, b := checked{before}, checked{after}
	r := api.FlorRate{
		Wine:    rateOf(a, b, days, checked.leastVolume, checked.mostVolume),
		Alcohol: rateOf(a, b, days, checked.leastAlcohol, checked.mostAlcohol),
	}
	if ranges.IsNothing(r.Wine) || ranges.IsNothing(r.Alcohol) {
		return api.FlorRate{}, api.ErrClash
	}
	return r, api.OK
}

// Explains returns whether a rate explains a measurement behind another one.
func Explains(r api.FlorRate, a, b api.FlorMeasure) (int, api.Errno) {
	if e := checks.First(CheckRate(r), measureError(a), measureError(b), betweenError(a, b)); e != api.OK {
		return 0, e
	}
	w, e := checked{a.Wine}.after(r, b.Day-a.Day)
	if e != api.OK {
		return 0, e
	}
	return answer(bound{w.Volume, b.Wine.Volume}, bound{w.Strength, b.Wine.Strength}, bound{w.Sugar, b.Wine.Sugar}), api.OK
}

// measuresError is the first error of measurements, with its number.
func measuresError(l []api.FlorMeasure) (int, api.Errno) {
	if e := checks.First(checks.Unless(len(l) > 0, api.ErrShape), checks.Unless(len(l) <= api.MaxFlorMeasures, api.ErrLarge)); e != api.OK {
		return 0, e
	}
	for n, m := range l {
		e := measureError(m)
		if n > 0 {
			e = checks.First(e, betweenError(l[n-1], m))
		}
		if e != api.OK {
			return n, e
		}
	}
	return 0, api.OK
}

// Followed returns the narrowed wines of measurements, or the number of the first one with an error.
func Followed(r api.FlorRate, l []api.FlorMeasure) ([]api.FlorWine, int, api.Errno) {
	if e := CheckRate(r); e != api.OK {
		return nil, 0, e
	}
	if n, e := measuresError(l); e != api.OK {
		return nil, n, e
	}
	last := checked{l[0].Wine}
	narrowed := []api.FlorWine{last.FlorWine}
	for n := 1; n < len(l); n++ {
		w, e := last.after(r, l[n].Day-l[n-1].Day)
		if e != api.OK {
			return nil, n, e
		}
		both, ok := w.common(checked{l[n].Wine})
		if !ok {
			return nil, n, api.ErrClash
		}
		last = both
		narrowed = append(narrowed, last.FlorWine)
	}
	return narrowed, 0, api.OK
}
