package taste

import (
	"strconv"
	"strings"

	"criadera/api"
	"criadera/checks"
	"criadera/texts"
)

// mostDigits is the most digits of marks in texts.
const mostDigits = 3

// withoutMarks stands in the place of the marks of a sheet that has none.
const withoutMarks = "-"

// FormatSheet returns the text of a sheet, whatever it is.
func FormatSheet(s api.TasteSheet) string {
	if len(s.Marks) == 0 {
		return s.Cask + " " + withoutMarks
	}
	marks := make([]string, 0, len(s.Marks))
	for _, mark := range s.Marks {
		marks = append(marks, strconv.Itoa(mark))
	}
	return s.Cask + " " + strings.Join(marks, ",")
}

// ParseSheet returns the sheet with a text.
func ParseSheet(t string) (api.TasteSheet, api.Errno) {
	cask, rest, _ := strings.Cut(t, " ") // without a blank the rest is empty, and has not its form
	marks, ok := readMarks(rest)
	if e := checks.First(
		checks.Unless(ok, api.ErrSyntax),
		checks.Name(cask),
		checks.Unless(len(marks) <= api.MaxTasteSheet, api.ErrLarge),
		checks.Numbers(marks, 0, api.MaxTasteMarks-1)); e != api.OK {
		return api.TasteSheet{}, e
	}
	return api.TasteSheet{Cask: cask, Marks: marks}, api.OK
}

// readMarks reads the second word of a sheet.
func readMarks(word string) ([]int, bool) {
	if word == withoutMarks {
		return nil, true
	}
	l := strings.Split(word, ",")
	return texts.Numbers(l, len(l), mostDigits)
}
