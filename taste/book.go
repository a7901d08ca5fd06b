package taste

import (
	"slices"
	"strings"

	"criadera/api"
	"criadera/checks"
)

// CheckBook returns the first error of a rule book, and the number of its class (0 if none is named).
func CheckBook(b api.TasteBook) (int, api.Errno) {
	marks, classes := len(b.Marks), len(b.Classes)
	if e := checks.First(
		checks.Unless(marks > 0 && classes > 0, api.ErrShape),
		checks.Unless(marks <= api.MaxTasteMarks && classes <= api.MaxTasteClasses, api.ErrLarge)); e != api.OK {
		return 0, e
	}
	_, e := checks.Each(marks, func(n int) api.Errno { return nameError(b.Marks, n) })
	if e := checks.First(e, checks.Element(b.Begin, classes)); e != api.OK {
		return 0, e
	}
	names := namesOf(b.Classes)
	return checks.Each(classes, func(n int) api.Errno {
		return checks.First(nameError(names, n), stepsError(b.Classes[n], marks, classes))
	})
}

// nameError asks for a name that no earlier one is like.
func nameError(names []string, n int) api.Errno {
	return checks.First(
		checks.Name(names[n]),
		checks.Unless(!slices.Contains(names[:n], names[n]), api.ErrExists))
}

// stepsError asks for the steps from a class, one for each mark.
func stepsError(c api.TasteClass, marks, classes int) api.Errno {
	_, e := checks.Each(len(c.Reasons), func(n int) api.Errno { return checks.Name(c.Reasons[n]) })
	return checks.First(
		checks.Unless(len(c.Next) == marks && len(c.Reasons) == marks, api.ErrShape),
		checks.Elements(c.Next, classes),
		e)
}

func namesOf(classes []api.TasteClass) []string {
	l := make([]string, 0, len(classes))
	for _, c := range classes {
		l = append(l, c.Name)
	}
	return l
}

// A book is a checked rule book.
type book struct{ api.TasteBook }

func bookOf(b api.TasteBook) (book, api.Errno) {
	if _, e := CheckBook(b); e != api.OK {
		return book{}, e
	}
	return book{b}, api.OK
}

func (b book) classError(class int) api.Errno { return checks.Element(class, len(b.Classes)) }

// leads is the class to which a mark leads from a class.
func (b book) leads(class, mark int) int { return b.Classes[class].Next[mark] }

func (b book) rank(class int) string {
	rank, _, _ := strings.Cut(b.Classes[class].Name, "-")
	return rank
}

// from is the rule book by which casks begin in a class.
func (b book) from(class int) book {
	b.Begin = class
	return b
}
