package flor

import (
	"fmt"
	"math/big"
	"math/rand"
	"slices"
	"testing"

	"criadera/api"
)

// TestAfterPlainly compares After, Over and SafeDays with the definition (P3.2, P3.6), and asks for P3.8.
func TestAfterPlainly(t *testing.T) {
	r := rand.New(rand.NewSource(1))
	large := 0
	for range 8000 {
		w, rate, days := someWine(r, 1000+r.Intn(99001), 10000, 100000), someRate(r, 1+r.Intn(2000)), r.Intn(366)
		plain := plainAfter(w, rate, days)
		after, e := After(w, rate, days)
		over, n, f := Over(w, []api.FlorSpell{{Rate: rate, Days: days}})
		want(t, "Over of one spell", over, f, after, e)
		want(t, "the number", n, 0, 0, 0)
		loss, f := LossOf(w, rate, days)
		checkLoss(t, r, w, rate, days, plain, loss, f)
		if plain.Strength.Hi > api.MaxStrength || plain.Sugar.Hi > api.MaxContent {
			large++
			refused(t, "After of what may be too much", after, e, api.ErrLarge)
		} else {
			want(t, fmt.Sprint("After of ", w, rate, days), after, e, plain, api.OK)
		}
	}
	if large < 500 {
		t.Errorf("only %d wines may be too much", large)
	}
}

// checkLoss follows true wines: what is left of them lies in the wine behind the days, what is lost in the loss.
func checkLoss(t *testing.T, r *rand.Rand, w api.FlorWine, rate api.FlorRate, days int, plain api.FlorWine, loss api.Range, e api.Errno) {
	t.Helper()
	want(t, fmt.Sprint("LossOf ", w, rate, days), loss, e, around(times(rat(w.Volume.Lo), millionths(rate.Wine.Lo, days)), times(rat(w.Volume.Hi), millionths(rate.Wine.Hi, days))), api.OK)
	for range 5 {
		x, f := someTruth(r, w), someShare(r, rate.Wine, days)
		if !has(loss, times(x.volume, f)) {
			t.Errorf("the loss of %v of %v is not in %v", f, x.volume, loss)
		}
		if y := x.behind(f, someShare(r, rate.Alcohol, days)); !y.liesIn(plain) {
			t.Errorf("%v of %v is not in %v", y, x, plain)
		}
	}
}

// TestSafeDaysPlainly: P3.6.
func TestSafeDaysPlainly(t *testing.T) {
	r := rand.New(rand.NewSource(2))
	between := 0
	for range 300 {
		w, rate := someWine(r, 100000, 10000, 100000), someRate(r, 1+r.Intn(2000))
		strength := w.Strength.Lo * (50 + r.Intn(51)) / 100
		days := 0
		for days < 365 && plainAfter(w, rate, days+1).Strength.Lo >= strength {
			days++
		}
		n, e := SafeDays(w, rate, strength)
		want(t, fmt.Sprint("SafeDays of ", w, rate, strength), n, e, days, api.OK)
		if days > 0 && days < 365 {
			between++
		}
	}
	if between < 50 {
		t.Errorf("only %d wines lose their strength", between)
	}
}

// TestMixedPlainly compares Mixed with the definition (P3.3), and asks for P3.9.
func TestMixedPlainly(t *testing.T) {
	r := rand.New(rand.NewSource(3))
	for range 5000 {
		var l []api.FlorWine
		for range 1 + r.Intn(8) {
			l = append(l, someWine(r, 12500, 10000, 100000))
		}
		if len(l) < 8 && r.Intn(2) == 0 {
			l = append(l, api.FlorWine{Strength: someRange(r, 10000), Sugar: someRange(r, 100000)})
		}
		if plainVolume(l) == 0 {
			continue
		}
		plain := plainMixed(l)
		mixed, e := Mixed(l)
		want(t, fmt.Sprint("Mixed of ", l), mixed, e, plain, api.OK)
		checkTruths(t, r, l, mixed)
		r.Shuffle(len(l), func(i, k int) { l[i], l[k] = l[k], l[i] })
		mixed, e = Mixed(l)
		want(t, fmt.Sprint("in another order: ", l), mixed, e, plain, api.OK)
		l = slices.DeleteFunc(l, func(w api.FlorWine) bool { return w.Volume.Hi == 0 })
		mixed, e = Mixed(l)
		want(t, fmt.Sprint("without wines of no volume: ", l), mixed, e, plain, api.OK)
	}
}

func plainVolume(l []api.FlorWine) int {
	all := 0
	for _, w := range l {
		all += w.Volume.Hi
	}
	return all
}

func checkTruths(t *testing.T, r *rand.Rand, l []api.FlorWine, mixed api.FlorWine) {
	t.Helper()
	for range 5 {
		var truths []truth
		total := rat(0)
		for _, w := range l {
			x := someTruth(r, w)
			truths, total = append(truths, x), plus(total, x.volume)
		}
		if total.Sign() == 0 {
			continue
		}
		if x := mixedTruth(truths); !x.liesIn(mixed) {
			t.Errorf("%v, mixed of %v, is not in %v", x, truths, mixed)
		}
	}
}

// TestFortifiedPlainly: P3.4: spirit is a wine without sugar.
func TestFortifiedPlainly(t *testing.T) {
	r := rand.New(rand.NewSource(4))
	for range 2000 {
		w, x := someWine(r, 50000, 10000, 100000), api.FlorSpirit{Volume: 1 + r.Intn(50000), Strength: r.Intn(10001)}
		got, e := Fortified(w, x)
		want(t, fmt.Sprint("Fortified ", w, x), got, e, plainMixed([]api.FlorWine{w, wineOf(x.Volume, x.Volume, x.Strength, x.Strength, 0, 0)}), api.OK)
	}
}

// reaches tells whether a true wine reaches a target with so much spirit.
func (x truth) reaches(spirit, strength, target int) bool {
	if x.volume.Sign() == 0 {
		return true
	}
	return mixedTruth([]truth{x, {rat(spirit), rat(strength), rat(0)}}).strength.Cmp(rat(target)) >= 0
}

// TestSpiritForPlainly: P3.4 and P3.9: the wines at the ends tell what the others need.
func TestSpiritForPlainly(t *testing.T) {
	r := rand.New(rand.NewSource(5))
	needed := 0
	for range 5000 {
		w, target := someWine(r, 2000, 3000, 0), 1+r.Intn(4000)
		strength := target + 1 + r.Intn(6000)
		n, e := SpiritFor(w, strength, target)
		poor := truth{rat(w.Volume.Hi), rat(w.Strength.Lo), rat(0)}
		rich := truth{rat(w.Volume.Lo), rat(w.Strength.Hi), rat(0)}
		if e == api.ErrLarge {
			if poor.reaches(api.MaxVolume, strength, target) {
				t.Errorf("%v needs no more than there may be", w)
			}
			continue
		}
		want(t, "no error", 0, e, 0, api.OK)
		if !rich.reaches(n.Lo, strength, target) || n.Lo > 0 && rich.reaches(n.Lo-1, strength, target) {
			t.Errorf("%v does not need %d at least", w, n.Lo)
		}
		if !poor.reaches(n.Hi, strength, target) || n.Hi > 0 && poor.reaches(n.Hi-1, strength, target) {
			t.Errorf("%v does not need %d at most", w, n.Hi)
		}
		for range 5 {
			x := someTruth(r, w)
			if !x.reaches(n.Hi, strength, target) || n.Lo > 0 && x.reaches(n.Lo-1, strength, target) {
				t.Errorf("%v does not need %v", x, n)
			}
		}
		if n.Lo > 0 {
			needed++
		}
	}
	if needed < 500 {
		t.Errorf("only %d wines need spirit", needed)
	}
}

// plainRates is the rates of RatesOf, from what there was at least and at most before, and behind the days.
func plainRates(before, after api.Range, days int) (api.Range, bool) {
	rate := func(after, before int) *big.Rat {
		return over(times(rat(1000000), lessOne(over(rat(after), rat(before)))), rat(days))
	}
	r := around(rate(after.Hi, before.Lo), rate(after.Lo, before.Hi))
	r = from(max(0, r.Lo), min(2000, r.Hi))
	return r, r.Lo <= r.Hi
}

// TestRatesOfPlainly: P3.5.
func TestRatesOfPlainly(t *testing.T) {
	r := rand.New(rand.NewSource(6))
	right := 0
	for range 20000 {
		before, days := someWine(r, 1000+r.Intn(99001), 10000, 9), 1+r.Intn(365)
		if before.Volume.Lo == 0 || before.Strength.Lo == 0 {
			continue
		}
		x := someTruth(r, before).behind(someShare(r, from(0, 2100), days), someShare(r, from(0, 2100), days))
		after := measured(r, x)
		if CheckWine(after) != api.OK {
			continue
		}
		alcohol := func(w api.FlorWine) api.Range {
			return from(w.Volume.Lo*w.Strength.Lo, w.Volume.Hi*w.Strength.Hi)
		}
		wine, ok := plainRates(before.Volume, after.Volume, days)
		spirit, ok2 := plainRates(alcohol(before), alcohol(after), days)
		rates, e := RatesOf(before, after, days)
		if !ok || !ok2 {
			refused(t, "RatesOf of what no rate explains", rates, e, api.ErrClash)
			continue
		}
		right++
		want(t, fmt.Sprint("RatesOf ", before, after, days), rates, e, api.FlorRate{Wine: wine, Alcohol: spirit}, api.OK)
	}
	if right < 5000 {
		t.Errorf("only %d wines have rates", right)
	}
}

// TestTrueRates: P3.10.
func TestTrueRates(t *testing.T) {
	r := rand.New(rand.NewSource(7))
	told := 0
	for range 5000 {
		before, days, permitted := someWine(r, 100000, 3000, 30000), 1+r.Intn(365), someRate(r, 2000)
		before.Volume.Lo, before.Strength.Lo = max(1, before.Volume.Lo), max(1, before.Strength.Lo)
		before.Volume.Hi, before.Strength.Hi = max(1, before.Volume.Hi), max(1, before.Strength.Hi)
		after, e := After(before, permitted, days)
		if e != api.OK {
			continue
		}
		told++
		n, e := Explains(permitted, on(5, before), on(5+days, after))
		want(t, "what After tells is explained", n, e, api.AnswerYes, api.OK)
		f, g := someShare(r, permitted.Wine, days), someShare(r, permitted.Alcohol, days)
		measure := measured(r, someTruth(r, before).behind(f, g))
		rates, e := RatesOf(before, measure, days)
		rate := func(share *big.Rat) *big.Rat { return over(times(share, rat(1000000)), rat(days)) }
		if e != api.OK || !has(rates.Wine, rate(f)) || !has(rates.Alcohol, rate(g)) {
			t.Errorf("RatesOf %v, %v, %d: %v, %d, without %v, %v", before, measure, days, rates, e, rate(f), rate(g))
		}
		if n, e := Explains(permitted, on(5, before), on(5+days, measure)); n == api.AnswerNo || e != api.OK {
			t.Errorf("%v, %v, %d are not explained by %v: %d", before, measure, days, permitted, e)
		}
	}
	if told < 2000 {
		t.Errorf("only %d wines", told)
	}
}

// TestFollowedTruth: P3.11.
func TestFollowedTruth(t *testing.T) {
	r := rand.New(rand.NewSource(8))
	narrower, followed := 0, 0
	for range 500 {
		permitted, day := someRate(r, 200), r.Intn(50000)
		x := truth{rat(1000 + r.Intn(99000)), rat(100 + r.Intn(1900)), rat(r.Intn(9000))}
		l, truths := []api.FlorMeasure{on(day, measured(r, x))}, []truth{x}
		for range 1 + r.Intn(9) {
			days := 1 + r.Intn(100)
			x = x.behind(someShare(r, permitted.Wine, days), someShare(r, permitted.Alcohol, days))
			day += days
			l, truths = append(l, on(day, measured(r, x))), append(truths, x)
		}
		narrowed, n, e := Followed(permitted, l)
		want(t, "Followed of true wines", n, e, 0, api.OK)
		if e != api.OK {
			continue
		}
		for n, w := range narrowed {
			followed++
			if !truths[n].liesIn(w) {
				t.Errorf("%v is not in %v", truths[n], w)
			}
			if w != l[n].Wine {
				narrower++
			}
			if !isWithin(w.Volume, l[n].Wine.Volume) || !isWithin(w.Strength, l[n].Wine.Strength) || !isWithin(w.Sugar, l[n].Wine.Sugar) {
				t.Errorf("%v is wider than %v", w, l[n].Wine)
			}
			if n > 0 {
				after := plainAfter(narrowed[n-1], permitted, l[n].Day-l[n-1].Day)
				both, _ := checked{after}.common(checked{l[n].Wine})
				want(t, "what is narrowed", w, 0, both.FlorWine, 0)
			}
		}
	}
	if narrower < followed/3 {
		t.Errorf("only %d of %d wines are narrowed", narrower, followed)
	}
}

// garbled puts a few pieces into a text, in the place of others.
func garbled(r *rand.Rand, text string) string {
	pieces := []string{"", " ", "a", "0", "-", "9", "-5", " 5", "+", "\n", "\xff"}
	for range r.Intn(3) {
		at := r.Intn(len(text) + 1)
		text = text[:at] + pieces[r.Intn(len(pieces))] + text[min(len(text), at+r.Intn(3)):]
	}
	return text
}

// TestGarbledTexts: P3.12, and R9: a wine and a loss have one text only, so what is read is written in the same way again.
func TestGarbledTexts(t *testing.T) {
	r := rand.New(rand.NewSource(9))
	right := 0
	for range 20000 {
		text := garbled(r, FormatWine(someWine(r, 100000, 10000, 100000)))
		w, e := ParseWine(text)
		if e != api.OK {
			refused(t, fmt.Sprintf("%q", text), w, e, e)
		} else {
			right++
			want(t, "the text of a wine again", FormatWine(w), CheckWine(w), text, api.OK)
		}
		days := someRange(r, api.MaxDate)
		text = garbled(r, FormatLoss(api.FlorLoss{Cask: "butt-7", From: days.Lo, To: days.Hi, Volume: someRange(r, api.MaxVolume)}))
		l, e := ParseLoss(text)
		if e != api.OK {
			refused(t, fmt.Sprintf("%q", text), l, e, e)
		} else {
			right++
			want(t, "the text of a loss again", FormatLoss(l), 0, text, 0)
		}
	}
	if right < 2000 {
		t.Errorf("only %d texts were right", right)
	}
}
