package flor

import (
	"fmt"
	"testing"

	"criadera/api"
)

// TestCheckWine: P3.1.
func TestCheckWine(t *testing.T) {
	for _, w := range []api.FlorWine{
		{}, fino,
		wineOf(0, api.MaxVolume, 0, api.MaxStrength, 0, api.MaxContent),
		wineOf(api.MaxVolume, api.MaxVolume, api.MaxStrength, api.MaxStrength, api.MaxContent, api.MaxContent),
	} {
		want(t, fmt.Sprint(w), 0, CheckWine(w), 0, api.OK)
	}
	for n, most := range []int{api.MaxVolume, api.MaxStrength, api.MaxContent} {
		for _, x := range wrongRanges(most) {
			w := fino
			*[]*api.Range{&w.Volume, &w.Strength, &w.Sugar}[n] = x.r
			want(t, fmt.Sprint(w), 0, CheckWine(w), 0, x.e)
		}
	}
	want(t, "the volume ahead of the strength", 0, CheckWine(wineOf(2, 1, -1, 0, -1, 0)), 0, api.ErrOrder)
	want(t, "the strength ahead of the sugar", 0, CheckWine(wineOf(0, 0, 2, 1, -1, 0)), 0, api.ErrOrder)
}

// TestCheckRate: P3.1.
func TestCheckRate(t *testing.T) {
	for _, r := range []api.FlorRate{{}, finoRate, rateWith(0, api.MaxFlorRate, api.MaxFlorRate, api.MaxFlorRate)} {
		want(t, fmt.Sprint(r), 0, CheckRate(r), 0, api.OK)
	}
	for _, x := range wrongRanges(api.MaxFlorRate) {
		want(t, fmt.Sprint("wine ", x.r), 0, CheckRate(api.FlorRate{Wine: x.r}), 0, x.e)
		want(t, fmt.Sprint("alcohol ", x.r), 0, CheckRate(api.FlorRate{Alcohol: x.r}), 0, x.e)
	}
	want(t, "wine ahead of alcohol", 0, CheckRate(rateWith(2, 1, -1, 0)), 0, api.ErrOrder)
}

// TestCheckLaw: P3.1.
func TestCheckLaw(t *testing.T) {
	for _, x := range []api.FlorLaw{{}, {Strength: from(api.MaxStrength, api.MaxStrength), Sugar: from(0, api.MaxContent)}} {
		want(t, fmt.Sprint(x), 0, CheckLaw(x), 0, api.OK)
	}
	for _, x := range wrongRanges(api.MaxStrength) {
		want(t, fmt.Sprint("strength ", x.r), 0, CheckLaw(api.FlorLaw{Strength: x.r}), 0, x.e)
	}
	for _, x := range wrongRanges(api.MaxContent) {
		want(t, fmt.Sprint("sugar ", x.r), 0, CheckLaw(api.FlorLaw{Sugar: x.r}), 0, x.e)
	}
	want(t, "the strength ahead of the sugar", 0, CheckLaw(api.FlorLaw{Strength: from(2, 1), Sugar: from(-1, 0)}), 0, api.ErrOrder)
}

// TestWrongWinesAndRates: every function tells the error of its wine first, and then that of its rate, whatever is wrong behind them (P3.2 to P3.6).
func TestWrongWinesAndRates(t *testing.T) {
	for e, w := range wrongWines() {
		for name, f := range every(t, w, rateWith(2, 1, 2, 1), -1) {
			want(t, name+" of a wrong wine", 0, f, 0, e)
		}
		_, f := RatesOf(fino, w, 0)
		want(t, "RatesOf of a wrong wine behind", 0, f, 0, e)
	}
	for e, r := range wrongRates() {
		for name, f := range every(t, fino, r, -1) {
			if asksRate(name) {
				want(t, name+" of a wrong rate", 0, f, 0, e)
			}
		}
		_, f := Explains(r, on(-1, fino), on(-1, fino))
		want(t, "Explains with a wrong rate", 0, f, 0, e)
		_, n, f := Followed(r, nil)
		want(t, "Followed with a wrong rate", n, f, 0, e)
	}
}

func asksRate(name string) bool { return name == "After" || name == "LossOf" || name == "SafeDays" }

// every calls each function of the package that asks for a wine first, and returns what error it tells.
func every(t *testing.T, w api.FlorWine, r api.FlorRate, n int) map[string]api.Errno {
	t.Helper()
	errors := map[string]api.Errno{}
	keep := func(name string, x any, none any, e api.Errno) {
		errors[name] = e
		if e != api.OK {
			want(t, name+" beside an error", x, 0, none, 0)
		}
	}
	after, e := After(w, r, n)
	keep("After", after, api.FlorWine{}, e)
	over, number, e := Over(w, make([]api.FlorSpell, api.MaxFlorSpells+1))
	keep("Over", over, api.FlorWine{}, e)
	want(t, "the number of Over", number, 0, 0, 0)
	loss, e := LossOf(w, r, n)
	keep("LossOf", loss, api.Range{}, e)
	drawn, e := Drawn(w, from(n, n))
	keep("Drawn", drawn, api.FlorWine{}, e)
	mixed, e := Mixed([]api.FlorWine{fino, w, wineOf(-1, -1, 0, 0, 0, 0)})
	keep("Mixed", mixed, api.FlorWine{}, e)
	fortified, e := Fortified(w, api.FlorSpirit{Volume: n, Strength: n})
	keep("Fortified", fortified, api.FlorWine{}, e)
	spirit, e := SpiritFor(w, n, n)
	keep("SpiritFor", spirit, api.Range{}, e)
	rates, e := RatesOf(w, wineOf(-1, -1, 0, 0, 0, 0), n)
	keep("RatesOf", rates, api.FlorRate{}, e)
	days, e := SafeDays(w, r, n)
	keep("SafeDays", days, 0, e)
	legal, e := LegalIs(w, api.FlorLaw{Strength: from(n, n)})
	keep("LegalIs", legal, 0, e)
	return errors
}
