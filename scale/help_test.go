package scale

import (
	"fmt"
	"testing"

	"criadera/api"
)

// want compares a value and an error. A nil list and an empty one are printed alike.
func want[T any](t *testing.T, what string, got T, e api.Errno, value T, f api.Errno) {
	t.Helper()
	if fmt.Sprintf("%+v", got) != fmt.Sprintf("%+v", value) || e != f {
		t.Errorf("%s: %+v, %d, want %+v, %d", what, got, e, value, f)
	}
}

// wineOf is a wine of a denominator, and of sources with amounts.
func wineOf(den int, l ...int) api.ScaleWine {
	w := api.ScaleWine{Den: den}
	for i := 0; i < len(l); i += 2 {
		w.Parts = append(w.Parts, api.ScalePart{Source: l[i], Amount: l[i+1]})
	}
	return w
}

// manyOf is a wine of so many sources from first on, a decilitre of each.
func manyOf(first, n int) api.ScaleWine {
	w := wineOf(1)
	for i := range n {
		w.Parts = append(w.Parts, api.ScalePart{Source: first + i, Amount: 1})
	}
	return w
}

// stateOf is the state with a text, which must be right.
func stateOf(t *testing.T, text string) api.ScaleState {
	t.Helper()
	s, e := ParseState(text)
	if e != api.OK {
		t.Fatalf("%q is no state: %d", text, e)
	}
	return s
}

// actOf is the act with a text, which must be right.
func actOf(t *testing.T, text string) api.ScaleAct {
	t.Helper()
	a, e := ParseAct(text)
	if e != api.OK {
		t.Fatalf("%q is no act: %d", text, e)
	}
	return a
}

func actsOfTexts(t *testing.T, texts ...string) []api.ScaleAct {
	t.Helper()
	var l []api.ScaleAct
	for _, text := range texts {
		l = append(l, actOf(t, text))
	}
	return l
}

// systemOf is the system with a text, which must be right.
func systemOf(t *testing.T, text string) api.ScaleSystem {
	t.Helper()
	s, m, e := Parse(text)
	if e != api.OK {
		t.Fatalf("%q is no system: %v, %d", text, m, e)
	}
	return s
}

// The states and the system of the chapter's examples.
const (
	twoCasks  = "a 100 1 10:100;b 100 1 12:60;in 1 10:100 12:60;sold 1;lost 1"
	oneSystem = "system s\ncask a 100 100\ndays 80 260\ndraw a 25\nfill a 25\n"
)

// scribble writes into all memory of a state, and appends to its lists.
func scribble(s api.ScaleState) {
	wines := []api.ScaleWine{s.In, s.Sold, s.Lost}
	for i := range s.Casks {
		wines = append(wines, s.Casks[i].Wine)
		s.Casks[i].Name = "gone"
	}
	for _, w := range wines {
		for i := range w.Parts {
			w.Parts[i] = api.ScalePart{Source: -7, Amount: -7}
		}
		_ = append(w.Parts, api.ScalePart{Source: -8, Amount: -8})
	}
	_ = append(s.Casks, api.ScaleCask{Name: "more"})
}
