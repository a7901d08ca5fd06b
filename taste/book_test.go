package taste

import (
	"testing"

	"criadera/api"
)

// TestCheckBook: P7.1.
func TestCheckBook(t *testing.T) {
	one := api.TasteBook{Marks: words("m"), Classes: []api.TasteClass{class("m", numbers(0), "m")}}
	for what, b := range map[string]api.TasteBook{
		"the chapter's rule book":          rules(),
		"that of the third example":        double(),
		"one class, with the mark's name":  one,
		"the most marks and classes":       broad(6, 8),
		"the longest names":                {Marks: words("abcdefghij-9"), Classes: []api.TasteClass{class("abcdefghij-9", numbers(0), "abcdefghij-9")}},
		"it begins in the last class":      changed(func(b *api.TasteBook) { b.Begin = 2 }),
		"a class that is not reached":      changed(func(b *api.TasteBook) { b.Classes[0].Next[1] = 1 }),
		"names that differ in their cases": changed(func(b *api.TasteBook) { b.Classes[2].Name, b.Marks[1] = "Mosto", "Raya" }),
		"nothing behind the rank":          changed(func(b *api.TasteBook) { b.Classes[2].Name = "mosto-" }),
		"classes of one rank":              changed(func(b *api.TasteBook) { b.Classes[1].Name, b.Classes[2].Name = "mosto-1", "mosto-1-" }),
	} {
		n, e := CheckBook(b)
		want(t, what, n, e, 0, api.OK)
	}
	for _, x := range wrongBooks() {
		n, e := CheckBook(x.b)
		want(t, x.what, n, e, x.n, x.e)
	}
	many := broad(1, 1)
	many.Marks, many.Classes = make([]string, 1000000), make([]api.TasteClass, 1000000)
	n, e := CheckBook(many)
	want(t, "a million of both", n, e, 0, api.ErrLarge)
}

// TestWrongBooks: R1: the errors of a rule book come ahead of all others.
func TestWrongBooks(t *testing.T) {
	for _, x := range wrongBooks() {
		what := x.what
		l, e := Walk(x.b, make([]int, 41))
		refused(t, what, l, e, x.e)
		s, e := ClassOf(x.b, sheet("", make([]int, 41)...))
		refused(t, what, s, e, x.e)
		names, e := ReasonsOf(x.b, sheet("", -1))
		refused(t, what, names, e, x.e)
		l, e = Reachable(x.b)
		refused(t, what, l, e, x.e)
		l, e = SheetTo(x.b, -1)
		refused(t, what, l, e, x.e)
		l, e = Distinguish(x.b, api.TasteBook{})
		refused(t, what, l, e, x.e)
		l, e = Distinguish(rules(), x.b)
		refused(t, what, l, e, x.e)
		sets, e := Alike(x.b)
		refused(t, what, sets, e, x.e)
		b, e := Least(x.b)
		refused(t, what, b, e, x.e)
		l, e = Trapped(x.b)
		refused(t, what, l, e, x.e)
	}
}

// TestBooksStay: R3: results share no memory with the rule book, or with each other.
func TestBooksStay(t *testing.T) {
	b := double()
	least, _ := Least(b)
	for n := range least.Classes {
		least.Classes[n].Name = "x"
		for mark := range least.Marks {
			least.Marks[mark], least.Classes[n].Reasons[mark], least.Classes[n].Next[mark] = "x", "x", 7
		}
		for _, l := range least.Classes {
			_, _ = append(l.Next, 9), append(l.Reasons, "y")
		}
	}
	want(t, "the rule book", b, 0, double(), 0)
	x := class("x", numbers(7, 7), "x", "x")
	want(t, "the least one", least, 0, api.TasteBook{Marks: words("x", "x"), Classes: []api.TasteClass{x, x, x}}, 0)
	sets, _ := Alike(b)
	for _, set := range sets {
		_ = append(set, 9)
	}
	want(t, "the sets", sets, 0, [][]int{{0}, {1}, {2, 3}}, 0)
	read, _, _ := ParseBook(textOfRules)
	_ = append(read.Marks, "y")
	for _, l := range read.Classes {
		_, _ = append(l.Next, 9), append(l.Reasons, "y")
	}
	want(t, "the rule book that was read", read, 0, rules(), 0)
	marks := numbers(1, 1, 0)
	s := sheet("butt", marks...)
	walk, _ := Walk(b, marks)
	walk[0], walk[1] = 7, 7
	reasons, _ := ReasonsOf(b, s)
	reasons[0] = "x"
	want(t, "the rule book", b, 0, double(), 0)
	want(t, "the marks", marks, 0, numbers(1, 1, 0), 0)
}
