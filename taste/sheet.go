package taste

import (
	"criadera/api"
	"criadera/checks"
)

func (b book) marksError(marks []int) api.Errno {
	return checks.First(
		checks.Unless(len(marks) <= api.MaxTasteSheet, api.ErrLarge),
		checks.Elements(marks, len(b.Marks)))
}

// walk is the classes one after the other, to which marks lead.
func (b book) walk(marks []int) []int {
	classes := []int{b.Begin}
	for n, mark := range marks {
		classes = append(classes, b.leads(classes[n], mark))
	}
	return classes
}

// Walk returns the walk of marks.
func Walk(b api.TasteBook, marks []int) ([]int, api.Errno) {
	checked, e := bookOf(b)
	if e := checks.First(e, checked.marksError(marks)); e != api.OK {
		return nil, e
	}
	return checked.walk(marks), api.OK
}

// walkOf is the walk of a sheet, and the rule book by which it is walked, if both are right.
func walkOf(b api.TasteBook, s api.TasteSheet) (book, []int, api.Errno) {
	checked, e := bookOf(b)
	if e := checks.First(e, checks.Name(s.Cask), checked.marksError(s.Marks)); e != api.OK {
		return book{}, nil, e
	}
	return checked, checked.walk(s.Marks), api.OK
}

// ClassOf returns the name of the class of a sheet.
func ClassOf(b api.TasteBook, s api.TasteSheet) (string, api.Errno) {
	checked, classes, e := walkOf(b, s)
	if e != api.OK {
		return "", e
	}
	return checked.Classes[classes[len(s.Marks)]].Name, api.OK
}

// ReasonsOf returns the reasons of all steps of a sheet.
func ReasonsOf(b api.TasteBook, s api.TasteSheet) ([]string, api.Errno) {
	checked, classes, e := walkOf(b, s)
	if e != api.OK {
		return nil, e
	}
	reasons := make([]string, 0, len(s.Marks))
	for n, mark := range s.Marks {
		reasons = append(reasons, checked.Classes[classes[n]].Reasons[mark])
	}
	return reasons, api.OK
}
