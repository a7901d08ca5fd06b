package taste

import (
	"fmt"
	"testing"

	"criadera/api"
)

// TestCheckPanel: P7.4.
func TestCheckPanel(t *testing.T) {
	for what, p := range map[string]api.TastePanel{
		"the chapter's panel":    table(),
		"one glass":              panelOfOne(1, 1),
		"the most of all":        panelOfOne(30, 8),
		"the most casks":         {Casks: 30, Marks: 6, Glasses: numbers(29, 0), Tasters: [][]int{{5, 0}, {0, 5}}},
		"a cask without a glass": panelOfTwo(numbers(1), numbers(0)),
	} {
		n, e := CheckPanel(p)
		want(t, what, n, e, 0, api.OK)
	}
	for _, x := range wrongPanels() {
		n, e := CheckPanel(x.p)
		want(t, x.what, n, e, x.n, x.e)
	}
}

// TestWrongPanels: R1: the errors of a panel come ahead of all others.
func TestWrongPanels(t *testing.T) {
	for _, x := range wrongPanels() {
		s, e := SteadyOf(x.p, -1)
		refused(t, x.what, s, e, x.e)
		l, e := Steadiest(x.p, share(2, 4))
		refused(t, x.what, l, e, x.e)
		f, e := AgreementOf(x.p, -1, 9)
		refused(t, x.what, f, e, x.e)
		l, e = CountsOf(x.p, -1, numbers(1, 0))
		refused(t, x.what, l, e, x.e)
		n, e := MarkOf(x.p, -1, numbers(1, 0))
		refused(t, x.what, n, e, x.e)
		l, e = Marked(x.p, share(2, 1))
		refused(t, x.what, l, e, x.e)
	}
}

// TestSteadyOf: P7.4.
func TestSteadyOf(t *testing.T) {
	for _, x := range []struct {
		what   string
		p      api.TastePanel
		taster int
		s      api.TasteSteady
	}{
		{"the chapter's first taster", table(), 0, api.TasteSteady{Same: 1, Of: 4}},
		{"the chapter's second taster", table(), 1, api.TasteSteady{Same: 4, Of: 4}},
		{"each cask once", panelOfTwo(numbers(1, 0), numbers(0, 0)), 0, api.TasteSteady{}},
		{"one glass", panelOfOne(1, 1), 0, api.TasteSteady{}},
		{"the most glasses", panelOfOne(30, 8), 7, api.TasteSteady{Same: 435, Of: 435}},
		{"never the same", panelOfTwo(numbers(0, 1, 1, 0), numbers(0, 0, 1, 1)), 0, api.TasteSteady{Of: 2}},
	} {
		s, e := SteadyOf(x.p, x.taster)
		want(t, x.what, s, e, x.s, api.OK)
	}
	for _, n := range outside(0, 1) {
		s, e := SteadyOf(table(), n)
		refused(t, fmt.Sprint("the taster ", n), s, e, api.ErrMissing)
	}
}

// TestSteadiest: P7.4.
func TestSteadiest(t *testing.T) {
	three := table()
	three.Tasters = append(three.Tasters, numbers(0, 0, 1, 1, 1))
	once := panelOfTwo(numbers(1, 0), numbers(0, 0), numbers(1, 0))
	for _, x := range []struct {
		what    string
		p       api.TastePanel
		least   api.Frac
		tasters []int
	}{
		{"the chapter's example", table(), share(1, 2), numbers(1)},
		{"a quarter is just what the first one has", table(), share(1, 4), numbers(0, 1)},
		{"a bit more than a quarter", table(), share(250000001, 1000000000), numbers(1)},
		{"a bit less than a quarter", table(), share(249999999, 1000000000), numbers(0, 1)},
		{"all of them", three, share(0, 1), numbers(0, 1, 2)},
		{"none but the one who is always steady", three, share(1, 1), numbers(1)},
		{"the third one has one of four", three, share(1, 4), numbers(0, 1, 2)},
		{"none", panelOfTwo(numbers(0, 0), numbers(0, 1)), share(1, 1000000000), nil},
		{"whoever never had the same wine twice", once, share(1, 1), numbers(0, 1)},
		{"nearly 1", table(), share(999999999, 1000000000), numbers(1)},
	} {
		l, e := Steadiest(x.p, x.least)
		want(t, x.what, l, e, x.tasters, api.OK)
	}
	for _, x := range wrongShares() {
		l, e := Steadiest(table(), x.least)
		refused(t, fmt.Sprint(x.least), l, e, x.e)
	}
}

// TestAgreementOf: P7.4.
func TestAgreementOf(t *testing.T) {
	even := panelOfTwo(numbers(0, 0, 1, 1), numbers(0, 0, 0, 0), numbers(1, 0, 1, 0), numbers(1, 1, 1, 1))
	for _, x := range []struct {
		p    api.TastePanel
		a, b int
		f    api.Frac
	}{
		{table(), 0, 1, share(3, 5)}, {table(), 1, 0, share(3, 5)}, {table(), 0, 0, share(1, 1)},
		{even, 0, 1, share(1, 2)}, {even, 0, 2, share(0, 1)}, {even, 2, 1, share(1, 2)},
		{panelOfOne(30, 8), 7, 0, share(1, 1)},
	} {
		f, e := AgreementOf(x.p, x.a, x.b)
		want(t, fmt.Sprint(x.a, " and ", x.b), f, e, x.f, api.OK)
	}
	for _, n := range outside(0, 1) {
		f, e := AgreementOf(table(), n, 0)
		refused(t, fmt.Sprint("the taster ", n), f, e, api.ErrMissing)
		f, e = AgreementOf(table(), 1, n)
		refused(t, fmt.Sprint("the taster ", n), f, e, api.ErrMissing)
	}
}
