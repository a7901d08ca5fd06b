package scale

import (
	"fmt"
	"strings"
	"testing"

	"criadera/api"
)

// TestPrint: P1.8.
func TestPrint(t *testing.T) {
	text, e := Print(systemOf(t, oneSystem))
	want(t, "an example", text, e, oneSystem, api.OK)
	text, e = Print(systemBy(t, "move a b 40", "draw b 5", "join a b", "fill b 0 5", "move b a 40"))
	want(t, "all kinds of steps", text, e, "system s\ncask a 100 100\ncask b 50 0\ndays 80 260\nmove a b 40\ndraw b 5\njoin a b\nfill b 5\nmove b a 40\n", api.OK)
	text, e = Print(systemBy(t))
	want(t, "no steps", text, e, "system s\ncask a 100 100\ncask b 50 0\ndays 80 260\n", api.OK)
	text, e = Print(systemBy(t, "draw a 5"))
	want(t, "a wrong system", text, e, "", api.ErrOpen)
}

// TestParse: P1.8.
func TestParse(t *testing.T) {
	for _, text := range []string{
		oneSystem,
		"system s\ncask a 100 100\ndays 80 260\ndraw a 25\nfill a 25",
		"\n \t\n\tsystem  s\t\n\n cask\ta 100\t \t100 \n\n\ndays 80 260\n draw a 25\n\n\tfill a 25\n\n \n",
	} {
		s, m, e := Parse(text)
		printed, f := Print(s)
		want(t, fmt.Sprintf("%q", text), printed, e, oneSystem, f)
		want(t, "its mark", m, 0, api.TextMark{}, 0)
	}
}

// TestParseErrors: P1.8.
func TestParseErrors(t *testing.T) {
	const head = "system s\ncask a 5 5\n"
	casks := ""
	for _, name := range namesOf(13) {
		casks += "cask " + name + " 1 1\n"
	}
	for _, x := range []struct {
		text         string
		line, column int
		e            api.Errno
	}{
		{"cask a 100 100\n", 1, 1, api.ErrSyntax},
		{"\n\n \tmoon s\n", 3, 3, api.ErrSyntax},
		{"system s\nsystem s\n", 2, 1, api.ErrSyntax},
		{head + "\r\n", 3, 1, api.ErrSyntax},
		{head + "lose a 5\n", 3, 1, api.ErrSyntax},
		{head + "Days 5\n", 3, 1, api.ErrSyntax},
		{head + "days 5\n  days x\n", 4, 3, api.ErrDouble},
		{head + "days 5\ndraw a 1\ndays 6\n", 5, 1, api.ErrDouble},
		{head + "days 5\n cask 9\n", 4, 2, api.ErrOrder},
		{head + "days 5\ndraw a 1\ncask b 5 5\n", 5, 1, api.ErrOrder},
		{head + "\tdraw 9 5\n", 3, 2, api.ErrOrder},
		{head + "fill a 5\n", 3, 1, api.ErrOrder},
		{head + "move a b 5\n", 3, 1, api.ErrOrder},
		{head + "join a b\n", 3, 1, api.ErrOrder},

		{"system", 1, 7, api.ErrMissing},
		{"  system \t \n", 1, 9, api.ErrMissing},
		{"system 9\n", 1, 8, api.ErrName},
		{"system  abcdefghijklm 5\n", 1, 9, api.ErrName},
		{"system s t\n", 1, 10, api.ErrSyntax},
		{"system s\ncask", 2, 5, api.ErrMissing},
		{"system s\ncask a\n", 2, 7, api.ErrMissing},
		{"system s\ncask a 100\n", 2, 11, api.ErrMissing},
		{"system s\ncask 9 x\n", 2, 6, api.ErrName},
		{"system s\ncask a x\n", 2, 8, api.ErrSyntax},
		{"system s\ncask a 100 1x\n", 2, 12, api.ErrSyntax},
		{"system s\ncask a 05 5\n", 2, 8, api.ErrSyntax},
		{"system s\ncask a -5 5\n", 2, 8, api.ErrSyntax},
		{"system s\ncask a +5 5\n", 2, 8, api.ErrSyntax},
		{"system s\ncask a 1000000000 5\n", 2, 8, api.ErrSyntax},
		{"system s\ncask a 100 100 5\n", 2, 16, api.ErrSyntax},
		{"system s\ncask a 999999999 5\ndays 5\n", 2, 1, api.ErrRange},
		{head + "days", 3, 5, api.ErrMissing},
		{head + "days x\n", 3, 6, api.ErrSyntax},
		{head + "days 5 6  7a 8b\n", 3, 11, api.ErrSyntax},
		{head + "days 5\ndraw a\n", 4, 7, api.ErrMissing},
		{head + "days 5\ndraw 5\n", 4, 6, api.ErrName},
		{head + "days 5\ndraw a b\n", 4, 8, api.ErrSyntax},
		{head + "days 5\ndraw a 5 5\n", 4, 10, api.ErrSyntax},
		{head + "days 5\nfill a 0 5\n", 4, 10, api.ErrSyntax},
		{head + "days 5\nmove a 5\n", 4, 8, api.ErrName},
		{head + "days 5\nmove a b\n", 4, 9, api.ErrMissing},
		{head + "days 5\njoin\n", 4, 5, api.ErrMissing},
		{head + "days 5\njoin a 5 b\n", 4, 8, api.ErrName},

		{"", 1, 1, api.ErrMissing},
		{"\n", 2, 1, api.ErrMissing},
		{"\n\n  ", 4, 1, api.ErrMissing},
		{"system s", 2, 1, api.ErrMissing},
		{"system s\ncask a 5 6", 3, 1, api.ErrMissing},
		{"system s\ncask a 5 6\n", 3, 1, api.ErrMissing},
		{"system s\ncask a 5 6\n\n\t\n", 5, 1, api.ErrMissing},

		{"\n  system s\ndays 5\n", 2, 1, api.ErrShape},
		{"\nsystem s\n" + casks + "days 5\n", 2, 1, api.ErrLarge},
		{"system s\n  cask a 5 6\ndays 5\n", 2, 1, api.ErrRange},
		{head + "\n cask a 5 5\ndays 5\n", 4, 1, api.ErrExists},
		{head + "cask b 0 0\ndays 5\n", 3, 1, api.ErrRange},
		{head + "\n  days 5 5\n", 4, 1, api.ErrOrder},
		{head + "days 365\n", 3, 1, api.ErrRange},
		{head + "days 0 1 2 3 4 5 6 7 8 9 10 11 12\n", 1, 1, api.ErrLarge},
		{head + "days 5\n\n  join a", 5, 1, api.ErrShape},
		{head + "days 5\ndraw a 5\ndraw a 1\n", 5, 1, api.ErrNone},
		{head + "days 5\ndraw a 0\n", 4, 1, api.ErrRange},
		{head + "days 5\ndraw b 1\n", 4, 1, api.ErrMissing},
		{head + "days 5\nmove a a 1\n", 4, 1, api.ErrDouble},
		{"system s\ncask a 100 100\ndays 80 260\ndraw a 25\nfill a 26\n", 5, 1, api.ErrFull},
		{"\nsystem s\ncask a 100 100\ndays 80 260\ndraw a 25\n", 2, 1, api.ErrOpen},
		{head + "days 5\n" + strings.Repeat("draw a 1\n", 41), 1, 1, api.ErrLarge},
		{strings.Repeat("x", api.MaxText), 1, 1, api.ErrSyntax},
		{strings.Repeat("x", api.MaxText+1), 0, 0, api.ErrLarge},
		{oneSystem + strings.Repeat("\n", api.MaxText), 0, 0, api.ErrLarge},
	} {
		s, m, e := Parse(x.text)
		want(t, fmt.Sprintf("%.70q", x.text), m, e, api.TextMark{Line: x.line, Column: x.column}, x.e)
		want(t, "its system", s, 0, api.ScaleSystem{}, 0)
	}
	s, m, e := Parse(oneSystem + strings.Repeat("\n", api.MaxText-len(oneSystem)))
	want(t, "MaxText bytes", m, e, api.TextMark{}, api.OK)
	want(t, "its name", s.Name, 0, "s", 0)
}
