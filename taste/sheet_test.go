package taste

import (
	"fmt"
	"slices"
	"testing"

	"criadera/api"
)

// TestWalk: P7.2.
func TestWalk(t *testing.T) {
	long := slices.Repeat(numbers(1), 40)
	for _, x := range []struct {
		b       api.TasteBook
		marks   []int
		walk    []int
		class   string
		reasons []string
	}{
		{rules(), numbers(1, 1, 0), numbers(0, 2, 2, 1), "oloroso", words("thin", "keep", "fallen")},
		{rules(), nil, numbers(0), "mosto", nil},
		{rules(), numbers(0), numbers(0, 1), "oloroso", words("fat")},
		{rules(), numbers(1), numbers(0, 2), "fino", words("thin")},
		{rules(), long, slices.Concat(numbers(0), slices.Repeat(numbers(2), 40)), "fino", append(words("thin"), slices.Repeat(words("keep"), 39)...)},
		{changed(func(b *api.TasteBook) { b.Begin = 2 }), nil, numbers(2), "fino", nil},
		{changed(func(b *api.TasteBook) { b.Begin = 2 }), numbers(0, 1), numbers(2, 1, 1), "oloroso", words("fallen", "keep")},
		{double(), numbers(1, 1), numbers(0, 2, 3), "fino-2", words("thin", "keep")},
	} {
		l, e := Walk(x.b, x.marks)
		want(t, fmt.Sprint("the walk of ", x.marks), l, e, x.walk, api.OK)
		name, e := ClassOf(x.b, sheet("butt-7", x.marks...))
		want(t, fmt.Sprint("the class of ", x.marks), name, e, x.class, api.OK)
		reasons, e := ReasonsOf(x.b, sheet("butt-7", x.marks...))
		want(t, fmt.Sprint("the reasons of ", x.marks), reasons, e, x.reasons, api.OK)
	}
}

// TestWrongSheets: P7.2: the errors of marks and of sheets.
func TestWrongSheets(t *testing.T) {
	for _, x := range wrongMarksOfRules() {
		what := fmt.Sprint(x.marks)
		l, e := Walk(rules(), x.marks)
		refused(t, what, l, e, x.e)
		for cask, e := range map[string]api.Errno{"butt": x.e, "": api.ErrName, "a b": api.ErrName} {
			s, f := ClassOf(rules(), sheet(cask, x.marks...))
			refused(t, what, s, f, e)
			reasons, f := ReasonsOf(rules(), sheet(cask, x.marks...))
			refused(t, what, reasons, f, e)
		}
	}
	for _, cask := range wrongNames() {
		s, e := ClassOf(rules(), sheet(cask, 0))
		refused(t, cask, s, e, api.ErrName)
		reasons, e := ReasonsOf(rules(), sheet(cask))
		refused(t, cask, reasons, e, api.ErrName)
	}
}
