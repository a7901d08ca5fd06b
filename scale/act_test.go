package scale

import (
	"fmt"
	"strings"
	"testing"

	"criadera/api"
)

// namesOf is so many names.
func namesOf(n int) []string {
	var l []string
	for i := range n {
		l = append(l, fmt.Sprintf("c%d", i))
	}
	return l
}

// TestCheckAct: P1.3.
func TestCheckAct(t *testing.T) {
	a, ab := []string{"a"}, []string{"a", "b"}
	for _, x := range []struct {
		what string
		a    api.ScaleAct
		e    api.Errno
	}{
		{"a cask", api.ScaleAct{Kind: api.ScaleAdd, Casks: a, Volume: 5}, api.OK},
		{"a fill", api.ScaleAct{Kind: api.ScaleFill, Casks: a, Volume: 5}, api.OK},
		{"a fill with must", api.ScaleAct{Kind: api.ScaleFill, Casks: a, Source: api.ScaleMust, Volume: 5}, api.OK},
		{"a draw", api.ScaleAct{Kind: api.ScaleDraw, Casks: a, Volume: 1}, api.OK},
		{"a move", api.ScaleAct{Kind: api.ScaleMove, Casks: ab, Volume: api.MaxVolume}, api.OK},
		{"a loss", api.ScaleAct{Kind: api.ScaleLose, Casks: a, Volume: 5}, api.OK},
		{"a join", api.ScaleAct{Kind: api.ScaleJoin, Casks: ab}, api.OK},
		{"a join of 12", api.ScaleAct{Kind: api.ScaleJoin, Casks: namesOf(12)}, api.OK},
		{"a kind below all", api.ScaleAct{Kind: -1, Casks: a, Volume: 5}, api.ErrKind},
		{"a kind above all", api.ScaleAct{Kind: 6, Source: -1}, api.ErrKind},
		{"no casks", api.ScaleAct{Kind: api.ScaleDraw, Volume: 5}, api.ErrShape},
		{"two casks of a draw", api.ScaleAct{Kind: api.ScaleDraw, Casks: []string{"", ""}, Volume: 5}, api.ErrShape},
		{"a move of one cask", api.ScaleAct{Kind: api.ScaleMove, Casks: a, Volume: 5}, api.ErrShape},
		{"a move of three casks", api.ScaleAct{Kind: api.ScaleMove, Casks: namesOf(3), Volume: 5}, api.ErrShape},
		{"a join of one cask", api.ScaleAct{Kind: api.ScaleJoin, Casks: a}, api.ErrShape},
		{"a join of 13", api.ScaleAct{Kind: api.ScaleJoin, Casks: namesOf(13)}, api.ErrShape},
		{"no name", api.ScaleAct{Kind: api.ScaleDraw, Casks: []string{""}, Source: 1, Volume: 5}, api.ErrName},
		{"a name twice", api.ScaleAct{Kind: api.ScaleJoin, Casks: []string{"a", "b", "a", "9"}}, api.ErrDouble},
		{"a wrong name ahead of one twice", api.ScaleAct{Kind: api.ScaleJoin, Casks: []string{"a", "9", "a"}}, api.ErrName},
		{"a wrong name twice", api.ScaleAct{Kind: api.ScaleJoin, Casks: []string{"9", "9"}}, api.ErrName},
		{"a draw with a source", api.ScaleAct{Kind: api.ScaleDraw, Casks: a, Source: 1, Volume: 0}, api.ErrForm},
		{"a join with a volume", api.ScaleAct{Kind: api.ScaleJoin, Casks: ab, Volume: 5}, api.ErrForm},
		{"a join with a source", api.ScaleAct{Kind: api.ScaleJoin, Casks: ab, Source: 403}, api.ErrForm},
		{"a fill with a source above all", api.ScaleAct{Kind: api.ScaleFill, Casks: a, Source: 403, Volume: 5}, api.ErrRange},
		{"a fill with a source below all", api.ScaleAct{Kind: api.ScaleFill, Casks: a, Source: -1, Volume: 5}, api.ErrRange},
		{"a volume of 0", api.ScaleAct{Kind: api.ScaleAdd, Casks: a}, api.ErrRange},
		{"a volume that is too great", api.ScaleAct{Kind: api.ScaleLose, Casks: a, Volume: api.MaxVolume + 1}, api.ErrRange},
	} {
		want(t, x.what, 0, CheckAct(x.a), 0, x.e)
	}
}

// TestNames: P1.3.
func TestNames(t *testing.T) {
	for name, e := range map[string]api.Errno{
		"a": api.OK, "z": api.OK, "A": api.OK, "Z": api.OK, "a0": api.OK, "a9": api.OK, "a-": api.OK, "a9-B": api.OK, "abcdefghijkl": api.OK,
		"": api.ErrName, "abcdefghijklm": api.ErrName, "9": api.ErrName, "-a": api.ErrName, "a_": api.ErrName, "a b": api.ErrName, "ä": api.ErrName, "a\n": api.ErrName, "[": api.ErrName, "`": api.ErrName, "a/": api.ErrName, "a:": api.ErrName,
	} {
		want(t, fmt.Sprintf("%q", name), 0, CheckAct(api.ScaleAct{Kind: api.ScaleDraw, Casks: []string{name}, Volume: 1}), 0, e)
	}
}

// TestFormatAct: P1.3.
func TestFormatAct(t *testing.T) {
	for _, x := range []struct {
		a    api.ScaleAct
		text string
	}{
		{api.ScaleAct{Kind: api.ScaleAdd, Casks: []string{"a"}, Volume: 500}, "cask a 500"},
		{api.ScaleAct{Kind: api.ScaleFill, Casks: []string{"a"}, Source: 10, Volume: 500}, "fill a 10 500"},
		{api.ScaleAct{Kind: api.ScaleDraw, Casks: []string{"b"}, Volume: 45}, "draw b 45"},
		{api.ScaleAct{Kind: api.ScaleMove, Casks: []string{"a", "b"}, Volume: 30}, "move a b 30"},
		{api.ScaleAct{Kind: api.ScaleLose, Casks: []string{"a"}, Volume: 1}, "lose a 1"},
		{api.ScaleAct{Kind: api.ScaleJoin, Casks: []string{"a", "b", "c"}}, "join a b c"},
		{api.ScaleAct{Kind: api.ScaleJoin, Casks: []string{"a"}, Volume: 5, Source: 3}, "join a"},
		{api.ScaleAct{Kind: api.ScaleDraw, Casks: []string{"a"}, Source: 3, Volume: -5}, "draw a -5"},
		{api.ScaleAct{Kind: api.ScaleDraw, Volume: 5}, "draw 5"},
		{api.ScaleAct{Kind: 6, Casks: []string{"a"}}, ""},
		{api.ScaleAct{Kind: -1, Casks: []string{"a"}}, ""},
	} {
		want(t, "the text", FormatAct(x.a), 0, x.text, 0)
	}
}

// TestParseAct: P1.3 and P1.13.
func TestParseAct(t *testing.T) {
	for _, text := range []string{"cask a 500", "fill a 0 500", "fill a 401 1", "draw b 45", "move a b 30", "lose a 100000", "join a b c", "join " + strings.Join(namesOf(12), " ")} {
		a, e := ParseAct(text)
		want(t, "back", FormatAct(a), e, text, api.OK)
	}
	for text, e := range map[string]api.Errno{
		"":                                       api.ErrSyntax,
		" ":                                      api.ErrSyntax,
		"moon a 5":                               api.ErrSyntax,
		"Draw a 5":                               api.ErrSyntax,
		"draw":                                   api.ErrSyntax,
		"draw a":                                 api.ErrSyntax,
		"draw 5":                                 api.ErrSyntax,
		"draw  5":                                api.ErrSyntax,
		"draw  a 5":                              api.ErrSyntax,
		" draw a 5":                              api.ErrSyntax,
		"draw a 5 ":                              api.ErrSyntax,
		"draw a 5\n":                             api.ErrSyntax,
		"draw a\t5":                              api.ErrSyntax,
		"draw a 5 6":                             api.ErrSyntax,
		"draw a b 5":                             api.ErrSyntax,
		"move a 5":                               api.ErrSyntax,
		"move a b c 5":                           api.ErrSyntax,
		"fill a 5":                               api.ErrSyntax,
		"fill a 5 6 7":                           api.ErrSyntax,
		"fill a x 6":                             api.ErrSyntax,
		"draw a 05":                              api.ErrSyntax,
		"draw a +5":                              api.ErrSyntax,
		"draw a -0":                              api.ErrSyntax,
		"draw a -":                               api.ErrSyntax,
		"draw a 5x":                              api.ErrSyntax,
		"draw a 1000000000":                      api.ErrSyntax,
		"draw a -1000000000":                     api.ErrSyntax,
		"draw 9 x":                               api.ErrSyntax,
		"join":                                   api.ErrSyntax,
		"join  a":                                api.ErrSyntax,
		"join a":                                 api.ErrShape,
		"join a b 5":                             api.ErrName,
		"join " + strings.Join(namesOf(13), " "): api.ErrShape,
		"draw a 999999999":                       api.ErrRange,
		"draw a -999999999":                      api.ErrRange,
		"draw a 0":                               api.ErrRange,
		"draw a -5":                              api.ErrRange,
		"draw 9 5":                               api.ErrName,
		"draw a\tb 5":                            api.ErrName,
		"fill a 403 5":                           api.ErrRange,
		"fill a -1 5":                            api.ErrRange,
		"move a a 5":                             api.ErrDouble,
	} {
		a, f := ParseAct(text)
		want(t, fmt.Sprintf("%q", text), a, f, api.ScaleAct{}, e)
	}
}
