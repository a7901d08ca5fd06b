package taste

import (
	"fmt"
	"math"
	"slices"
	"testing"

	"criadera/api"
)

// want compares a value and an error. A nil list and an empty one are printed alike.
func want[T any](t *testing.T, what string, got T, e api.Errno, value T, f api.Errno) {
	t.Helper()
	if fmt.Sprintf("%+v", got) != fmt.Sprintf("%+v", value) || e != f {
		t.Errorf("%s: %+v, %d, want %+v, %d", what, got, e, value, f)
	}
}

// refused asks for an error, and for nothing beside it.
func refused[T any](t *testing.T, what string, got T, e api.Errno, f api.Errno) {
	t.Helper()
	var none T
	want(t, what, got, e, none, f)
}

// numbers and words are lists.
func numbers(l ...int) []int { return l }

func words(l ...string) []string { return l }

// class is a class with as many reasons as classes to which marks lead.
func class(name string, next []int, reasons ...string) api.TasteClass {
	return api.TasteClass{Name: name, Next: next, Reasons: reasons}
}

// bookWith has the marks of the chapter's examples.
func bookWith(classes ...api.TasteClass) api.TasteBook {
	return api.TasteBook{Marks: words("raya", "palma"), Classes: classes}
}

// rules is the rule book of the chapter's examples, cured the one of the second example, and double that of the third one.
func rules() api.TasteBook {
	return bookWith(
		class("mosto", numbers(1, 2), "fat", "thin"),
		class("oloroso", numbers(1, 1), "keep", "keep"),
		class("fino", numbers(1, 2), "fallen", "keep"))
}

func cured() api.TasteBook {
	b := rules()
	b.Classes[2].Next[0] = 2
	return b
}

func double() api.TasteBook {
	b := rules()
	b.Classes[2].Next[1] = 3
	b.Classes = append(b.Classes, class("fino-2", numbers(1, 3), "fallen", "keep"))
	return b
}

const textOfRules = "marks raya palma\nbegin mosto\nclass mosto oloroso/fat fino/thin\nclass oloroso oloroso/keep oloroso/keep\nclass fino oloroso/fallen fino/keep\n"

// chain is so many classes of one rank, by one mark from each to the next one, and back to one of them from the last one.
func chain(count, back int) api.TasteBook {
	b := api.TasteBook{Marks: words("raya")}
	for n := range count {
		b.Classes = append(b.Classes, class(fmt.Sprint("a-", n), numbers(n+1), "on"))
	}
	b.Classes[count-1].Next[0] = back
	return b
}

// broad is a rule book with so many marks and classes, each of which leads to itself.
func broad(marks, classes int) api.TasteBook {
	var b api.TasteBook
	for n := range marks {
		b.Marks = append(b.Marks, fmt.Sprint("m", n))
	}
	for n := range classes {
		b.Classes = append(b.Classes, class(fmt.Sprint("c", n), slices.Repeat(numbers(n), marks), slices.Repeat(words("r"), marks)...))
	}
	return b
}

func sheet(cask string, marks ...int) api.TasteSheet {
	return api.TasteSheet{Cask: cask, Marks: marks}
}

// table is the panel of the chapter's examples.
func table() api.TastePanel {
	return panelOfTwo(numbers(0, 1, 0, 1, 0), numbers(0, 1, 0, 0, 1), numbers(0, 1, 0, 1, 0))
}

// panelOfTwo has two casks and two marks.
func panelOfTwo(glasses []int, tasters ...[]int) api.TastePanel {
	return api.TastePanel{Casks: 2, Marks: 2, Glasses: glasses, Tasters: tasters}
}

// panelOfOne has one cask and one mark, so many glasses and so many tasters.
func panelOfOne(glasses, tasters int) api.TastePanel {
	return api.TastePanel{Casks: 1, Marks: 1, Glasses: make([]int, glasses), Tasters: slices.Repeat([][]int{make([]int, glasses)}, tasters)}
}

func share(num, den int) api.Frac { return api.Frac{Num: num, Den: den} }

// copied is a rule book that shares no memory with another one.
func copied(b api.TasteBook) api.TasteBook {
	b.Marks, b.Classes = slices.Clone(b.Marks), slices.Clone(b.Classes)
	for n, c := range b.Classes {
		b.Classes[n] = class(c.Name, slices.Clone(c.Next), slices.Clone(c.Reasons)...)
	}
	return b
}

// changed is rules with a change.
func changed(change func(b *api.TasteBook)) api.TasteBook {
	b := rules()
	change(&b)
	return b
}

// outside is numbers that are not from least to most.
func outside(least, most int) []int {
	return numbers(least-1, most+1, math.MinInt, math.MaxInt)
}

// wrongNames is texts that are no names.
func wrongNames() []string { return words("", "9a", "-a", "abcdefghijklm", "a b", "ä", "a_", "a/b") }

// A wrongBook is a rule book with an error, and the number of its class.
type wrongBook struct {
	what string
	b    api.TasteBook
	n    int
	e    api.Errno
}

// wrongBooks is rule books with errors, some of them with several.
func wrongBooks() []wrongBook {
	l := []wrongBook{
		{"nothing", api.TasteBook{}, 0, api.ErrShape},
		{"no marks", api.TasteBook{Classes: broad(7, 9).Classes}, 0, api.ErrShape},
		{"no classes", api.TasteBook{Marks: broad(7, 1).Marks}, 0, api.ErrShape},
		{"too many marks", changed(func(b *api.TasteBook) { b.Marks = slices.Repeat(words(""), 7) }), 0, api.ErrLarge},
		{"too many classes", changed(func(b *api.TasteBook) { b.Marks[0], b.Classes = "", make([]api.TasteClass, 9) }), 0, api.ErrLarge},
		{"too many marks for the classes", broad(7, 8), 0, api.ErrLarge},
		{"too many classes for the marks", broad(6, 9), 0, api.ErrLarge},
		{"a mark twice", changed(func(b *api.TasteBook) { b.Marks[1], b.Begin = "raya", 3 }), 0, api.ErrExists},
		{"a mark twice, ahead of a wrong one", changed(func(b *api.TasteBook) { b.Marks = words("a", "a", "") }), 0, api.ErrExists},
		{"a wrong mark, ahead of one twice", changed(func(b *api.TasteBook) { b.Marks = words("a", "", "a") }), 0, api.ErrName},
		{"a class twice", changed(func(b *api.TasteBook) { b.Classes[2] = class("mosto", nil) }), 2, api.ErrExists},
		{"the first wrong class", changed(func(b *api.TasteBook) { b.Classes[1].Reasons[0], b.Classes[2].Name = "", "" }), 1, api.ErrName},
		{"no steps", changed(func(b *api.TasteBook) { b.Classes[0] = class("mosto", nil) }), 0, api.ErrShape},
		{"too few steps", changed(func(b *api.TasteBook) { b.Classes[1] = class("oloroso", numbers(9), "") }), 1, api.ErrShape},
		{"too many steps", changed(func(b *api.TasteBook) { b.Classes[2] = class("fino", numbers(9, 9, 9), "", "", "") }), 2, api.ErrShape},
		{"too few reasons", changed(func(b *api.TasteBook) { b.Classes[2] = class("fino", numbers(1, 9), "") }), 2, api.ErrShape},
		{"too many reasons", changed(func(b *api.TasteBook) { b.Classes[2] = class("fino", numbers(1, 9), "", "a", "a") }), 2, api.ErrShape},
		{"too few classes to lead to", changed(func(b *api.TasteBook) { b.Classes[2] = class("fino", numbers(9), "a", "") }), 2, api.ErrShape},
		{"a class that is not there ahead of a wrong reason", changed(func(b *api.TasteBook) { b.Classes[1] = class("oloroso", numbers(1, 3), "", "") }), 1, api.ErrMissing},
	}
	for _, n := range outside(0, 2) {
		l = append(l,
			wrongBook{fmt.Sprint("it begins in ", n), changed(func(b *api.TasteBook) { b.Begin, b.Classes[0].Name = n, "" }), 0, api.ErrMissing},
			wrongBook{fmt.Sprint("raya leads to ", n), changed(func(b *api.TasteBook) { b.Classes[1].Next[0] = n }), 1, api.ErrMissing},
			wrongBook{fmt.Sprint("palma leads to ", n), changed(func(b *api.TasteBook) { b.Classes[2].Next[1] = n }), 2, api.ErrMissing})
	}
	for _, s := range wrongNames() {
		l = append(l,
			wrongBook{fmt.Sprintf("the mark %q", s), changed(func(b *api.TasteBook) { b.Marks[1], b.Begin = s, 3 }), 0, api.ErrName},
			wrongBook{fmt.Sprintf("the class %q", s), changed(func(b *api.TasteBook) { b.Classes[1] = class(s, nil) }), 1, api.ErrName},
			wrongBook{fmt.Sprintf("the reason %q", s), changed(func(b *api.TasteBook) { b.Classes[2].Reasons[1] = s }), 2, api.ErrName})
	}
	return l
}

// A wrongMarks is marks that the rule book rules does not have, with their error.
type wrongMarks struct {
	marks []int
	e     api.Errno
}

func wrongMarksOfRules() []wrongMarks {
	l := []wrongMarks{
		{make([]int, 41), api.ErrLarge},
		{slices.Repeat(numbers(2), 41), api.ErrLarge},
	}
	for _, n := range outside(0, 1) {
		l = append(l, wrongMarks{numbers(n), api.ErrMissing}, wrongMarks{numbers(0, 1, n, 0), api.ErrMissing})
	}
	return l
}

// A wrongPanel is a panel with an error, and the number of its taster.
type wrongPanel struct {
	what string
	p    api.TastePanel
	n    int
	e    api.Errno
}

// wrongPanels is panels with errors, some of them with several.
func wrongPanels() []wrongPanel {
	glasses, marks := numbers(0, 1), numbers(0, 1)
	l := []wrongPanel{
		{"nothing", api.TastePanel{}, 0, api.ErrRange},
		{"no casks, and no glasses", api.TastePanel{Marks: 1}, 0, api.ErrRange},
		{"no marks, and no glasses", api.TastePanel{Casks: 1}, 0, api.ErrRange},
		{"no glasses", panelOfTwo(nil, make([][]int, 9)...), 0, api.ErrShape},
		{"no tasters", panelOfTwo(make([]int, 31)), 0, api.ErrShape},
		{"too many glasses", panelOfOne(31, 8), 0, api.ErrLarge},
		{"too many glasses, of no casks", panelOfTwo(slices.Repeat(numbers(2), 31), marks), 0, api.ErrLarge},
		{"too many tasters", panelOfOne(30, 9), 0, api.ErrLarge},
		{"too many tasters, of no casks", panelOfTwo(numbers(2), make([][]int, 9)...), 0, api.ErrLarge},
		{"a cask that is not there, and no marks", panelOfTwo(numbers(0, 2), nil), 0, api.ErrMissing},
		{"no marks of the first taster", panelOfTwo(glasses, nil, marks), 0, api.ErrShape},
		{"too few marks", panelOfTwo(glasses, marks, numbers(2)), 1, api.ErrShape},
		{"too many marks", panelOfTwo(glasses, marks, marks, numbers(2, 2, 2)), 2, api.ErrShape},
		{"the first wrong taster", panelOfTwo(glasses, marks, numbers(0, 2), nil), 1, api.ErrMissing},
	}
	for _, n := range outside(1, 30) {
		p := table()
		p.Casks = n
		l = append(l, wrongPanel{fmt.Sprint(n, " casks"), p, 0, api.ErrRange})
	}
	for _, n := range outside(1, 6) {
		p := table()
		p.Marks = n
		l = append(l, wrongPanel{fmt.Sprint(n, " marks"), p, 0, api.ErrRange})
	}
	for _, n := range outside(0, 1) {
		l = append(l,
			wrongPanel{fmt.Sprint("the cask ", n), panelOfTwo(numbers(0, 1, n), numbers(0, 0, 0)), 0, api.ErrMissing},
			wrongPanel{fmt.Sprint("the mark ", n), panelOfTwo(glasses, marks, numbers(n, 0)), 1, api.ErrMissing},
			wrongPanel{fmt.Sprint("the last mark ", n), panelOfTwo(glasses, marks, numbers(0, n)), 1, api.ErrMissing})
	}
	return l
}

// A wrongShare is a least share with its error.
type wrongShare struct {
	least api.Frac
	e     api.Errno
}

func wrongShares() []wrongShare {
	return []wrongShare{
		{share(0, 0), api.ErrForm}, {share(1, 0), api.ErrForm}, {share(1, -1), api.ErrForm}, {share(-1, -2), api.ErrForm}, {share(0, 2), api.ErrForm},
		{share(2, 4), api.ErrForm}, {share(2, 2), api.ErrForm}, {share(-2, 4), api.ErrForm}, {share(4, 2), api.ErrForm}, {share(0, -1), api.ErrForm},
		{share(0, math.MaxInt), api.ErrForm}, {share(math.MinInt, math.MinInt), api.ErrForm}, {share(1, math.MinInt), api.ErrForm}, {share(math.MinInt, 2), api.ErrForm}, {share(math.MinInt, 0), api.ErrForm},
		{share(2, 2000000000), api.ErrForm}, {share(-1, 1), api.ErrRange}, {share(-1, 2), api.ErrRange}, {share(math.MinInt, 1), api.ErrRange}, {share(2, 1), api.ErrRange},
		{share(1000000001, 1000000000), api.ErrRange}, {share(1, 1000000001), api.ErrRange}, {share(1, math.MaxInt), api.ErrRange}, {share(math.MaxInt, 1), api.ErrRange}, {share(1000000000, 1000000001), api.ErrRange},
	}
}

// wrongTasters is what does not stand for some of two tasters, with its error.
func wrongTasters() map[api.Errno][][]int {
	return map[api.Errno][][]int{
		api.ErrMissing: {numbers(-1), numbers(2), numbers(0, math.MaxInt), numbers(math.MinInt, 0), numbers(0, 2, 1), numbers(1, -1)},
		api.ErrOrder:   {numbers(1, 0), numbers(0, 0), numbers(1, 1, 2), numbers(0, 1, 0)},
	}
}
