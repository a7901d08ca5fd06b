package flor

import (
	"fmt"
	"math"
	"slices"
	"testing"

	"criadera/api"
)

// TestAfter: P3.2.
func TestAfter(t *testing.T) {
	full := wineOf(api.MaxVolume, api.MaxVolume, api.MaxStrength, api.MaxStrength, api.MaxContent, api.MaxContent)
	for _, x := range []struct {
		what string
		w    api.FlorWine
		r    api.FlorRate
		days int
		out  api.FlorWine
		e    api.Errno
	}{
		{"the chapter's example", fino, finoRate, 100, wineOf(980, 990, 1469, 1600, 202, 205), api.OK},
		{"no days", fino, finoRate, 0, fino, api.OK},
		{"no loss", fino, still, 365, fino, api.OK},
		{"no loss of a full cask of all there may be", full, still, 365, full, api.OK},
		{"a year of the greatest rate", wineOf(1000, 1000, 1000, 1000, 100, 100), rateWith(2000, 2000, 2000, 2000), 365, wineOf(270, 270, 1000, 1000, 370, 371), api.OK},
		{"a year of all rates", wineOf(999, 1001, 1000, 1000, 100, 100), rateWith(0, 2000, 0, 2000), 365, wineOf(269, 1001, 270, 3704, 100, 371), api.OK},
		{"ends that come out whole", wineOf(100, 200, 1000, 2000, 100, 200), rateWith(1000, 1000, 1000, 1000), 100, wineOf(90, 180, 1000, 2000, 111, 223), api.OK},
		{"alcohol alone", wineOf(100, 200, 1000, 2000, 100, 200), rateWith(0, 0, 999, 1001), 1, wineOf(100, 200, 998, 1999, 100, 200), api.OK},
		{"no wine", wineOf(0, 0, 1000, 2000, 100, 200), finoRate, 100, wineOf(0, 0, 979, 2000, 101, 205), api.OK},
		{"a strength that comes to all", wineOf(100, 100, 9000, 9000, 0, 0), rateWith(1000, 1000, 0, 0), 100, wineOf(90, 90, 10000, 10000, 0, 0), api.OK},
		{"a strength that may come to more", wineOf(100, 100, 0, 9001, 0, 0), rateWith(1000, 1000, 0, 0), 100, api.FlorWine{}, api.ErrLarge},
		{"a strength that comes to a little more", wineOf(100, 100, 0, 10000, 0, 0), rateWith(0, 1, 0, 0), 1, api.FlorWine{}, api.ErrLarge},
		{"a sugar that comes to all", wineOf(100, 100, 0, 0, 0, 90000), rateWith(1000, 1000, 0, 0), 100, wineOf(90, 90, 0, 0, 0, 100000), api.OK},
		{"a sugar that may come to more", wineOf(100, 100, 0, 0, 0, 90001), rateWith(1000, 1000, 0, 0), 100, api.FlorWine{}, api.ErrLarge},
		{"days below 0", full, finoRate, -1, api.FlorWine{}, api.ErrRange},
		{"days of more than a year", full, finoRate, 366, api.FlorWine{}, api.ErrRange},
		{"the least number of days", full, finoRate, math.MinInt, api.FlorWine{}, api.ErrRange},
		{"the rate ahead of the days", full, rateWith(2, 1, 0, 0), 366, api.FlorWine{}, api.ErrOrder},
	} {
		w, e := After(x.w, x.r, x.days)
		want(t, x.what, w, e, x.out, x.e)
	}
}

// TestOver: P3.2.
func TestOver(t *testing.T) {
	hundred := api.FlorSpell{Rate: finoRate, Days: 100}
	more := api.FlorSpell{Rate: rateWith(1000, 1000, 0, 0), Days: 100}
	w, n, e := Over(fino, nil)
	want(t, "no spells", w, e, fino, api.OK)
	w, n, e = Over(fino, []api.FlorSpell{hundred, {Days: 7}, {Rate: rateWith(500, 500, 0, 0), Days: 20}})
	want(t, "three spells", w, e, wineOf(970, 981, 1483, 1617, 204, 208), api.OK)
	want(t, "no number", n, 0, 0, 0)
	twice, _, _ := Over(wineOf(10000, 10000, 0, 0, 0, 0), []api.FlorSpell{more, more})
	want(t, "each spell counts from its own beginning", twice.Volume, 0, from(8100, 8100), 0)
	most := slices.Repeat([]api.FlorSpell{{Rate: finoRate, Days: 1}}, api.MaxFlorSpells)
	_, n, e = Over(fino, most)
	want(t, "as many spells as may be", n, e, 0, api.OK)
	for _, x := range []struct {
		what string
		w    api.FlorWine
		l    []api.FlorSpell
		n    int
		e    api.Errno
	}{
		{"a wrong wine", wineOf(2, 1, 0, 0, 0, 0), append(most, hundred), 0, api.ErrOrder},
		{"one spell more", fino, append(most, api.FlorSpell{Days: -1}), 0, api.ErrLarge},
		{"wrong days", fino, []api.FlorSpell{hundred, hundred, {Days: 366}, {Days: -1}}, 2, api.ErrRange},
		{"a wrong rate", fino, []api.FlorSpell{hundred, {Rate: rateWith(2, 1, 0, 0), Days: 366}}, 1, api.ErrOrder},
		{"a first wrong rate", fino, []api.FlorSpell{{Rate: rateWith(0, 0, 2, 1)}}, 0, api.ErrOrder},
		{"too strong ahead of a wrong rate", wineOf(9, 9, 9500, 9500, 0, 0), []api.FlorSpell{{Days: 9}, more, {Days: -1}}, 1, api.ErrLarge},
		{"too strong in the second spell", wineOf(9, 9, 9000, 9000, 0, 0), []api.FlorSpell{more, more}, 1, api.ErrLarge},
		{"too strong on the way", wineOf(9, 9, 9500, 9500, 0, 0), []api.FlorSpell{more, {Rate: rateWith(0, 0, 1000, 1000), Days: 200}}, 0, api.ErrLarge},
	} {
		w, n, e := Over(x.w, x.l)
		refused(t, x.what, w, e, x.e)
		want(t, "the number of "+x.what, n, 0, x.n, 0)
	}
}

// TestLossOf: P3.2.
func TestLossOf(t *testing.T) {
	for _, x := range []struct {
		w    api.FlorWine
		r    api.FlorRate
		days int
		out  api.Range
		e    api.Errno
	}{
		{fino, finoRate, 100, from(10, 20), api.OK},
		{fino, finoRate, 0, from(0, 0), api.OK},
		{fino, still, 365, from(0, 0), api.OK},
		{wineOf(999, 1001, 0, 0, 0, 0), finoRate, 100, from(9, 21), api.OK},
		{wineOf(0, 0, 0, 0, 0, 0), finoRate, 100, from(0, 0), api.OK},
		{wineOf(100000, 100000, 10000, 10000, 100000, 100000), rateWith(2000, 2000, 0, 0), 365, from(73000, 73000), api.OK},
		{fino, rateWith(100, 200, 0, 2000), 1, from(0, 1), api.OK},
		{fino, finoRate, -1, from(0, 0), api.ErrRange},
		{fino, finoRate, 366, from(0, 0), api.ErrRange},
	} {
		r, e := LossOf(x.w, x.r, x.days)
		want(t, fmt.Sprint("the loss of ", x.w, x.r, x.days), r, e, x.out, x.e)
	}
}

// TestSafeDays: P3.6.
func TestSafeDays(t *testing.T) {
	for _, x := range []struct {
		what     string
		w        api.FlorWine
		r        api.FlorRate
		strength int
		days     int
		e        api.Errno
	}{
		{"the chapter's example", fino, finoRate, 1490, 33, api.OK},
		{"its own strength", fino, finoRate, 1500, 0, api.OK},
		{"a strength of 0", fino, finoRate, 0, 365, api.OK},
		{"no loss", fino, still, 1500, 365, api.OK},
		{"no loss of alcohol alone", fino, rateWith(0, 2000, 0, 0), 1500, 365, api.OK},
		{"a wine that becomes too strong for After", wineOf(9, 9, 1500, 10000, 0, 100000), rateWith(100, 200, 0, 100), 1500, 365, api.OK},
		{"a loss of alcohol by the day", wineOf(0, 9, 1000, 1000, 0, 0), rateWith(0, 0, 0, 1000), 900, 100, api.OK},
		{"a loss down to the last day", wineOf(0, 9, 1000, 1000, 0, 0), rateWith(0, 0, 0, 2000), 270, 365, api.OK},
		{"a loss that ends a day earlier", wineOf(0, 9, 1000, 1000, 0, 0), rateWith(0, 0, 0, 2000), 271, 364, api.OK},
		{"nothing in it", api.FlorWine{}, finoRate, 0, 365, api.OK},
		{"a strength below all", fino, finoRate, -1, 0, api.ErrRange},
		{"a strength above all", fino, finoRate, api.MaxStrength + 1, 0, api.ErrRange},
		{"a strength that may be missing", fino, finoRate, 1501, 0, api.ErrBreak},
		{"the rate ahead of the strength", fino, rateWith(0, 0, 2, 1), -1, 0, api.ErrOrder},
	} {
		n, e := SafeDays(x.w, x.r, x.strength)
		want(t, x.what, n, e, x.days, x.e)
	}
}
