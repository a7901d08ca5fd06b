package flor

import (
	"fmt"
	"math"
	"testing"

	"criadera/api"
)

// want compares a value and an error. A nil list and an empty one are printed alike.
func want[T any](t *testing.T, what string, got T, e api.Errno, value T, f api.Errno) {
	t.Helper()
	if fmt.Sprintf("%+v", got) != fmt.Sprintf("%+v", value) || e != f {
		t.Errorf("%s: %+v, %d, want %+v, %d", what, got, e, value, f)
	}
}

// refused asks for an error, and for nothing beside it.
func refused[T any](t *testing.T, what string, got T, e api.Errno, f api.Errno) {
	t.Helper()
	var none T
	want(t, what, got, e, none, f)
}

// from is a range.
func from(lo, hi int) api.Range { return api.Range{Lo: lo, Hi: hi} }

// wineOf is a wine of the six numbers of its text.
func wineOf(l ...int) api.FlorWine {
	return api.FlorWine{Volume: from(l[0], l[1]), Strength: from(l[2], l[3]), Sugar: from(l[4], l[5])}
}

// rateWith is a rate of wine and of alcohol.
func rateWith(l ...int) api.FlorRate {
	return api.FlorRate{Wine: from(l[0], l[1]), Alcohol: from(l[2], l[3])}
}

// on is a measurement.
func on(day int, w api.FlorWine) api.FlorMeasure { return api.FlorMeasure{Day: day, Wine: w} }

// The wine and the rate of the chapter's examples, and a rate with which a wine stays.
var (
	fino     = wineOf(1000, 1000, 1500, 1600, 200, 200)
	finoRate = rateWith(100, 200, 200, 300)
	still    = rateWith(0, 0, 0, 0)
)

// A wrong range has an error.
type wrongRange struct {
	r api.Range
	e api.Errno
}

// wrongRanges is ranges with errors, some of them with several, of a greatest number.
func wrongRanges(most int) []wrongRange {
	return []wrongRange{
		{from(-1, 1), api.ErrRange},
		{from(1, -1), api.ErrRange},
		{from(0, most+1), api.ErrRange},
		{from(most+1, most+1), api.ErrRange},
		{from(most+1, most), api.ErrRange},
		{from(math.MinInt, math.MaxInt), api.ErrRange},
		{from(math.MaxInt, math.MinInt), api.ErrRange},
		{from(1, 0), api.ErrOrder},
		{from(most, 0), api.ErrOrder},
		{from(most, most-1), api.ErrOrder},
	}
}

// wrongWines is wines with errors, each of which is behind those of the ones that follow it.
func wrongWines() map[api.Errno]api.FlorWine {
	return map[api.Errno]api.FlorWine{
		api.ErrRange: wineOf(0, api.MaxVolume+1, 2, 1, 2, 1),
		api.ErrOrder: wineOf(2, 1, 0, -1, 0, -1),
	}
}

// wrongRates is rates with errors.
func wrongRates() map[api.Errno]api.FlorRate {
	return map[api.Errno]api.FlorRate{
		api.ErrRange: rateWith(0, api.MaxFlorRate+1, 2, 1),
		api.ErrOrder: rateWith(2, 1, -1, 0),
	}
}
