package gauge

import (
	"math"
	"slices"

	"criadera/api"
	"criadera/checks"
	"criadera/ranges"
)

// thousand is how many parts of a decilitre are reckoned with, since losses are told for a thousand days.
const thousand = 1000

// told is thousandths of a decilitre in whole decilitres around them.
func told(r api.Range) api.Range { return ranges.Over(r, thousand) }

// thousandths is a volume with a net added to it, in thousandths of a decilitre.
func thousandths(volume api.Range, net int) api.Range {
	return api.Range{Lo: thousand * (volume.Lo + net), Hi: thousand * (volume.Hi + net)}
}

// allowed is what a gauging allows on a day, in thousandths of a decilitre.
func (b book) allowed(reading, day int) api.Range {
	x := b.Readings[reading]
	if days := x.Day - day; days > 0 {
		before := thousandths(x.Volume, -b.net(x.Cask, day, x.Day))
		return api.Range{Lo: before.Lo + b.Loss.Lo*days, Hi: before.Hi + b.Loss.Hi*days}
	}
	days := day - x.Day
	behind := thousandths(x.Volume, b.net(x.Cask, x.Day, day))
	return api.Range{Lo: behind.Lo - b.Loss.Hi*days, Hi: behind.Hi - b.Loss.Lo*days}
}

// held is what a cask holds on a day, as all its gaugings allow.
func (b book) held(cask string, day int) api.Range {
	all := api.Range{Lo: math.MinInt, Hi: math.MaxInt}
	for n, x := range b.Readings {
		if x.Cask == cask {
			all = ranges.Common(all, b.allowed(n, day))
		}
	}
	return told(all)
}

// gaugedCasks is the names of all casks that have a gauging.
func (b book) gaugedCasks() []string {
	var names []string
	for _, x := range b.Readings {
		if !slices.Contains(names, x.Cask) {
			names = append(names, x.Cask)
		}
	}
	return names
}

// ExpectedAt returns what a gauging allows on a day.
func ExpectedAt(b api.GaugeBook, reading, day int) (api.Range, api.Errno) {
	checked, e := bookOf(b)
	if e := checks.First(e, checked.readingError(reading), checks.Date(day)); e != api.OK {
		return api.Range{}, e
	}
	return told(checked.allowed(reading, day)), api.OK
}

// VolumeAt returns what a cask holds on a day. It asks for contradictions by themselves: on days behind two gaugings that contradict, both may allow the same again.
func VolumeAt(b api.GaugeBook, cask string, day int) (api.Range, api.Errno) {
	checked, e := bookOf(b)
	if e := checks.First(e, checks.Name(cask), checks.Date(day), checks.Unless(slices.Contains(checked.gaugedCasks(), cask), api.ErrNone)); e != api.OK {
		return api.Range{}, e
	}
	for pair := range checked.contradictions() {
		if checked.Readings[pair[0]].Cask == cask {
			return api.Range{}, api.ErrClash
		}
	}
	return checked.held(cask, day), api.OK
}

// TotalAt returns what all casks that have a gauging hold on a day, together.
func TotalAt(b api.GaugeBook, day int) (api.Range, api.Errno) {
	checked, e := bookOf(b)
	if e := checks.First(e, checks.Date(day), checks.Unless(len(b.Readings) > 0, api.ErrNone)); e != api.OK {
		return api.Range{}, e
	}
	if checked.isContradictory() {
		return api.Range{}, api.ErrClash
	}
	var total api.Range
	for _, name := range checked.gaugedCasks() {
		held := checked.held(name, day)
		total.Lo += held.Lo
		total.Hi += held.Hi
	}
	return total, api.OK
}
