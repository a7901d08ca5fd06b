package flor

import (
	"math"
	"slices"
	"testing"

	"criadera/api"
)

// TestRatesOf: P3.5.
func TestRatesOf(t *testing.T) {
	before, some := wineOf(1000, 1000, 1500, 1500, 0, 0), wineOf(980, 990, 1500, 1500, 0, 0)
	for _, x := range []struct {
		what          string
		before, after api.FlorWine
		days          int
		out           api.FlorRate
		e             api.Errno
	}{
		{"the chapter's example", before, some, 100, rateWith(100, 200, 100, 200), api.OK},
		{"within a day", before, wineOf(999, 999, 1500, 1500, 0, 0), 1, rateWith(1000, 1000, 1000, 1000), api.OK},
		{"within a year", before, wineOf(270, 270, 1500, 1500, 0, 0), 365, rateWith(2000, 2000, 2000, 2000), api.OK},
		{"whatever the sugar", wineOf(1000, 1000, 1500, 1500, 5, 5), wineOf(980, 990, 1500, 1500, 0, 1), 100, rateWith(100, 200, 100, 200), api.OK},
		{"rounded ends", wineOf(999, 1001, 1500, 1500, 0, 0), wineOf(980, 990, 1500, 1500, 0, 0), 100, rateWith(90, 210, 90, 210), api.OK},
		{"alcohol by volumes and strengths", wineOf(900, 1000, 1500, 1600, 0, 0), wineOf(880, 890, 1480, 1490, 0, 0), 100, rateWith(111, 1200, 177, 1860), api.OK},
		{"perhaps more than before", before, wineOf(990, 1010, 1500, 1500, 0, 0), 100, rateWith(0, 100, 0, 100), api.OK},
		{"no less than before", before, wineOf(1000, 1010, 1500, 1500, 0, 0), 100, rateWith(0, 0, 0, 0), api.OK},
		{"perhaps nothing left", before, wineOf(0, 990, 0, 1500, 0, 0), 100, rateWith(100, 2000, 100, 2000), api.OK},
		{"a rate that rounds to 0", wineOf(99999, 99999, 1500, 1500, 0, 0), wineOf(100000, 100000, 1499, 1500, 0, 0), 365, rateWith(0, 0, 0, 2), api.OK},
		{"more wine than before", before, wineOf(1001, 1010, 1400, 1400, 0, 0), 1, api.FlorRate{}, api.ErrClash},
		{"more alcohol than before", before, wineOf(990, 1000, 1600, 1600, 0, 0), 100, api.FlorRate{}, api.ErrClash},
		{"faster than may be", before, wineOf(900, 900, 1500, 1500, 0, 0), 49, api.FlorRate{}, api.ErrClash},
		{"as fast as may be", before, wineOf(900, 900, 1500, 1500, 0, 0), 50, rateWith(2000, 2000, 2000, 2000), api.OK},
		{"alcohol lost faster than may be", before, wineOf(1000, 1000, 1300, 1300, 0, 0), 50, api.FlorRate{}, api.ErrClash},
		{"no days", wineOf(0, 0, 0, 0, 0, 0), some, 0, api.FlorRate{}, api.ErrRange},
		{"days of more than a year", before, some, 366, api.FlorRate{}, api.ErrRange},
		{"the greatest number of days", before, some, math.MaxInt, api.FlorRate{}, api.ErrRange},
		{"perhaps no wine before", wineOf(0, 9, 1500, 1500, 0, 0), wineOf(900, 900, 0, 0, 0, 0), 1, api.FlorRate{}, api.ErrEmpty},
		{"perhaps no alcohol before", wineOf(9, 9, 0, 1500, 0, 0), wineOf(900, 900, 0, 0, 0, 0), 1, api.FlorRate{}, api.ErrEmpty},
	} {
		r, e := RatesOf(x.before, x.after, x.days)
		want(t, x.what, r, e, x.out, x.e)
	}
}

// TestExplains: P3.5.
func TestExplains(t *testing.T) {
	first := on(7, fino)
	after := wineOf(980, 990, 1469, 1600, 202, 205)
	for _, x := range []struct {
		what   string
		b      api.FlorWine
		answer int
	}{
		{"the chapter's example", wineOf(995, 1000, 1500, 1600, 200, 200), api.AnswerNo},
		{"what After tells", after, api.AnswerYes},
		{"wider by one everywhere", wineOf(979, 991, 1468, 1601, 201, 206), api.AnswerYes},
		{"all there may be", wineOf(0, api.MaxVolume, 0, api.MaxStrength, 0, api.MaxContent), api.AnswerYes},
		{"one volume less", wineOf(981, 990, 1469, 1600, 202, 205), api.AnswerMaybe},
		{"one volume less at the other end", wineOf(980, 989, 1469, 1600, 202, 205), api.AnswerMaybe},
		{"one strength less", wineOf(980, 990, 1470, 1600, 202, 205), api.AnswerMaybe},
		{"one strength less at the other end", wineOf(980, 990, 1469, 1599, 202, 205), api.AnswerMaybe},
		{"one sugar less", wineOf(980, 990, 1469, 1600, 203, 205), api.AnswerMaybe},
		{"one sugar less at the other end", wineOf(980, 990, 1469, 1600, 202, 204), api.AnswerMaybe},
		{"the ends alone", wineOf(990, 1000, 1600, 1700, 205, 300), api.AnswerMaybe},
		{"the other ends alone", wineOf(0, 980, 0, 1469, 0, 202), api.AnswerMaybe},
		{"too much wine", wineOf(991, 1000, 1469, 1600, 202, 205), api.AnswerNo},
		{"too little wine", wineOf(0, 979, 1469, 1600, 202, 205), api.AnswerNo},
		{"too strong", wineOf(980, 990, 1601, 1700, 202, 205), api.AnswerNo},
		{"too weak", wineOf(980, 990, 0, 1468, 202, 205), api.AnswerNo},
		{"too sweet", wineOf(980, 990, 1469, 1600, 206, 300), api.AnswerNo},
		{"too dry", wineOf(980, 990, 1469, 1600, 0, 201), api.AnswerNo},
		{"too dry, and perhaps too strong", wineOf(980, 990, 1600, 1600, 0, 201), api.AnswerNo},
	} {
		n, e := Explains(finoRate, first, on(107, x.b))
		want(t, x.what, n, e, x.answer, api.OK)
	}
	strong := wineOf(9, 9, 0, 9000, 0, 0)
	for _, x := range []struct {
		what string
		r    api.FlorRate
		a, b api.FlorMeasure
		e    api.Errno
	}{
		{"a year", still, on(0, fino), on(365, fino), api.OK},
		{"the last year", still, on(api.MaxDate-365, fino), on(api.MaxDate, fino), api.OK},
		{"a day below 0", finoRate, on(-1, wineOf(2, 1, 0, 0, 0, 0)), on(-1, fino), api.ErrRange},
		{"a day above all", finoRate, on(api.MaxDate+1, fino), on(api.MaxDate+1, fino), api.ErrRange},
		{"a wrong wine", finoRate, on(0, wineOf(2, 1, 0, 0, 0, 0)), on(-1, fino), api.ErrOrder},
		{"a second day above all", finoRate, on(0, fino), on(api.MaxDate+1, wineOf(2, 1, 0, 0, 0, 0)), api.ErrRange},
		{"a second day below all", finoRate, on(0, fino), on(math.MinInt, fino), api.ErrRange},
		{"a second wrong wine", finoRate, on(9, fino), on(0, wineOf(0, -1, 0, 0, 0, 0)), api.ErrRange},
		{"the same day", finoRate, on(9, fino), on(9, fino), api.ErrOrder},
		{"an earlier day", finoRate, on(900, fino), on(9, fino), api.ErrOrder},
		{"a day more than a year", finoRate, on(0, fino), on(366, fino), api.ErrLarge},
		{"perhaps too strong", rateWith(1000, 1001, 0, 0), on(0, strong), on(100, wineOf(99, 99, 0, 0, 0, 0)), api.ErrLarge},
	} {
		n, e := Explains(x.r, x.a, x.b)
		answer := 0
		if x.e == api.OK {
			answer = api.AnswerYes
		}
		want(t, x.what, n, e, answer, x.e)
	}
}

// TestFollowed: P3.5.
func TestFollowed(t *testing.T) {
	second, wide := wineOf(985, 1000, 1400, 1500, 200, 203), wineOf(0, 5000, 0, 5000, 0, 5000)
	l := []api.FlorMeasure{on(7, fino), on(107, second), on(207, wide)}
	before := slices.Clone(l)
	narrowed, n, e := Followed(finoRate, l)
	want(t, "three measurements", narrowed, e, []api.FlorWine{fino, wineOf(985, 990, 1469, 1500, 202, 203), wineOf(965, 981, 1439, 1500, 204, 208)}, api.OK)
	want(t, "no number", n, 0, 0, 0)
	want(t, "the argument", l, 0, before, 0)
	narrowed, n, e = Followed(finoRate, l[:1])
	want(t, "one measurement", narrowed, e, []api.FlorWine{fino}, api.OK)
	narrowed[0] = wide
	want(t, "the argument behind a change of the result", l, 0, before, 0)
	var most []api.FlorMeasure
	for day := range api.MaxFlorMeasures {
		most = append(most, on(365*day, fino))
	}
	narrowed, n, e = Followed(still, most)
	want(t, "as many measurements as may be", len(narrowed), e, api.MaxFlorMeasures, api.OK)
	strong, wrong := wineOf(9, 9, 0, 9000, 0, 0), wineOf(2, 1, 0, 0, 0, 0)
	fast := rateWith(1000, 1001, 0, 0)
	for _, x := range []struct {
		what string
		r    api.FlorRate
		l    []api.FlorMeasure
		n    int
		e    api.Errno
	}{
		{"no measurements", finoRate, nil, 0, api.ErrShape},
		{"a measurement more", finoRate, append(most, on(-1, fino)), 0, api.ErrLarge},
		{"a first wrong day", finoRate, []api.FlorMeasure{on(-1, wrong)}, 0, api.ErrRange},
		{"a wrong day", finoRate, []api.FlorMeasure{on(5, fino), on(6, fino), on(api.MaxDate+1, wrong)}, 2, api.ErrRange},
		{"a wrong wine", finoRate, []api.FlorMeasure{on(5, fino), on(4, wineOf(-1, 0, 0, 0, 0, 0))}, 1, api.ErrRange},
		{"the same day", finoRate, []api.FlorMeasure{on(5, fino), on(6, fino), on(6, fino), on(-1, fino)}, 2, api.ErrOrder},
		{"an earlier day", finoRate, []api.FlorMeasure{on(500, fino), on(5, fino)}, 1, api.ErrOrder},
		{"a day more than a year", finoRate, []api.FlorMeasure{on(5, fino), on(371, fino)}, 1, api.ErrLarge},
		{"a year ahead of a day more", finoRate, []api.FlorMeasure{on(5, fino), on(370, wide), on(736, fino)}, 2, api.ErrLarge},
		{"a contradiction", finoRate, []api.FlorMeasure{on(0, fino), on(100, second), on(200, wineOf(990, 990, 1400, 1500, 200, 204))}, 2, api.ErrClash},
		{"a contradiction of strengths", finoRate, []api.FlorMeasure{on(0, fino), on(100, wineOf(0, 5000, 0, 1468, 0, 5000))}, 1, api.ErrClash},
		{"a contradiction of sugars", finoRate, []api.FlorMeasure{on(0, fino), on(100, wineOf(0, 5000, 0, 5000, 206, 5000))}, 1, api.ErrClash},
		{"a contradiction of the narrowed wine alone", finoRate, []api.FlorMeasure{on(0, fino), on(1, wineOf(1000, 5000, 0, 5000, 0, 5000)), on(101, wineOf(0, 979, 0, 5000, 0, 5000))}, 2, api.ErrClash},
		{"a wrong day behind a contradiction", finoRate, []api.FlorMeasure{on(0, fino), on(100, wineOf(0, 0, 0, 0, 0, 0)), on(100, fino)}, 2, api.ErrOrder},
		{"perhaps too strong", fast, []api.FlorMeasure{on(0, strong), on(100, wineOf(99, 99, 0, 0, 0, 0))}, 1, api.ErrLarge},
		{"perhaps too strong behind three measurements", fast, []api.FlorMeasure{on(0, strong), on(1, strong), on(101, wineOf(99, 99, 0, 0, 0, 0))}, 2, api.ErrLarge},
		{"a contradiction ahead of what is too strong", fast, []api.FlorMeasure{on(0, wineOf(9, 9, 0, 0, 0, 0)), on(1, wineOf(10, 10, 0, 9000, 0, 0)), on(101, strong)}, 1, api.ErrClash},
	} {
		got, n, e := Followed(x.r, x.l)
		refused(t, x.what, got, e, x.e)
		want(t, "the number of "+x.what, n, 0, x.n, 0)
	}
}

// TestLegalIs: P3.6.
func TestLegalIs(t *testing.T) {
	for _, x := range []struct {
		what string
		law  api.FlorLaw
		n    int
		e    api.Errno
	}{
		{"a law that it keeps", api.FlorLaw{Strength: from(1500, 1700), Sugar: from(0, 400)}, api.AnswerYes, api.OK},
		{"a law that just permits it", api.FlorLaw{Strength: from(1500, 1600), Sugar: from(200, 200)}, api.AnswerYes, api.OK},
		{"perhaps too weak", api.FlorLaw{Strength: from(1501, 1700), Sugar: from(0, 400)}, api.AnswerMaybe, api.OK},
		{"perhaps too strong", api.FlorLaw{Strength: from(1500, 1599), Sugar: from(0, 400)}, api.AnswerMaybe, api.OK},
		{"strong enough at one end", api.FlorLaw{Strength: from(1600, 1700), Sugar: from(200, 400)}, api.AnswerMaybe, api.OK},
		{"too weak", api.FlorLaw{Strength: from(1601, 1700), Sugar: from(0, 400)}, api.AnswerNo, api.OK},
		{"too strong", api.FlorLaw{Strength: from(0, 1499), Sugar: from(0, 400)}, api.AnswerNo, api.OK},
		{"too dry", api.FlorLaw{Strength: from(1500, 1700), Sugar: from(201, 400)}, api.AnswerNo, api.OK},
		{"too sweet, and perhaps too weak", api.FlorLaw{Strength: from(1501, 1700), Sugar: from(0, 199)}, api.AnswerNo, api.OK},
		{"a wrong strength", api.FlorLaw{Strength: from(2, 1), Sugar: from(-1, 0)}, 0, api.ErrOrder},
		{"a wrong sugar", api.FlorLaw{Strength: from(0, 1), Sugar: from(0, api.MaxContent+1)}, 0, api.ErrRange},
	} {
		n, e := LegalIs(fino, x.law)
		want(t, x.what, n, e, x.n, x.e)
	}
	n, e := LegalIs(wineOf(0, 9, 5, 5, 5, 9), api.FlorLaw{Strength: from(5, 5), Sugar: from(7, 8)})
	want(t, "a sugar that may be right", n, e, api.AnswerMaybe, api.OK)
}
