package scale

import (
	"fmt"
	"strings"
	"testing"

	"criadera/api"
)

// casksOf is so many empty casks.
func casksOf(n int) []api.ScaleCask {
	var l []api.ScaleCask
	for _, name := range namesOf(n) {
		l = append(l, api.ScaleCask{Name: name, Capacity: 1, Wine: wineOf(1)})
	}
	return l
}

// TestCheckState: P1.2.
func TestCheckState(t *testing.T) {
	empty := api.ScaleState{In: wineOf(1), Sold: wineOf(1), Lost: wineOf(1)}
	one := func(name string, capacity int, w api.ScaleWine) api.ScaleState {
		s := empty
		s.Casks = []api.ScaleCask{{Name: "ok", Capacity: 1, Wine: wineOf(1)}, {Name: name, Capacity: capacity, Wine: w}}
		return s
	}
	with := func(in, sold, lost api.ScaleWine, casks ...api.ScaleCask) api.ScaleState {
		return api.ScaleState{Casks: casks, In: in, Sold: sold, Lost: lost}
	}
	ten := wineOf(1, 3, 10)
	for _, x := range []struct {
		what string
		s    api.ScaleState
		n    int
		e    api.Errno
	}{
		{"no casks", empty, 0, api.OK},
		{"12 casks", with(wineOf(1), wineOf(1), wineOf(1), casksOf(12)...), 0, api.OK},
		{"13 casks, and wrong wine", with(wineOf(0), wineOf(0), wineOf(0), append(casksOf(12), api.ScaleCask{})...), 0, api.ErrLarge},
		{"no name", one("", 0, wineOf(0)), 1, api.ErrName},
		{"no capacity", one("ok", 0, wineOf(0)), 1, api.ErrRange},
		{"too great a capacity", one("b", api.MaxVolume+1, wineOf(2)), 1, api.ErrRange},
		{"the greatest capacity", with(wineOf(1, 1, api.MaxVolume), wineOf(1), wineOf(1), api.ScaleCask{Name: "a", Capacity: api.MaxVolume, Wine: wineOf(1, 1, api.MaxVolume)}), 0, api.OK},
		{"a wrong wine", one("ok", 1, wineOf(2)), 1, api.ErrForm},
		{"a wrong order in a wine", one("ok", 1, wineOf(1, 2, 1, 1, 1)), 1, api.ErrOrder},
		{"more than the capacity", one("ok", 9, ten), 1, api.ErrFull},
		{"the same name", one("ok", 10, ten), 1, api.ErrExists},
		{"the first cask ahead of the others", with(wineOf(0), wineOf(1), wineOf(1), api.ScaleCask{Name: "a", Capacity: 5, Wine: ten}, api.ScaleCask{}), 0, api.ErrFull},
		{"wrong In", with(wineOf(0), wineOf(2), wineOf(1)), 0, api.ErrRange},
		{"wrong Sold", with(wineOf(1), wineOf(2), wineOf(0)), 0, api.ErrForm},
		{"wrong Lost", with(ten, wineOf(1), wineOf(1, 2, 1, 2, 1)), 0, api.ErrOrder},
		{"less came in", with(wineOf(1, 3, 9), ten, wineOf(1)), 0, api.ErrSum},
		{"more came in", with(wineOf(1, 3, 11), wineOf(1), ten), 0, api.ErrSum},
		{"another source came in", with(wineOf(1, 4, 10), ten, wineOf(1)), 0, api.ErrSum},
		{"all balanced", with(wineOf(1, 1, 3, 2, 5), wineOf(2, 1, 1, 2, 1), wineOf(1, 2, 3), api.ScaleCask{Name: "a", Capacity: 9, Wine: wineOf(2, 1, 5, 2, 3)}), 0, api.OK},
		{"balanced by great denominators", with(wineOf(1, 1, 1, 2, 1), wineOf(999999999989, 1, 1, 2, 999999999988), wineOf(999999999989, 1, 999999999988, 2, 1)), 0, api.OK},
		{"out of balance by great denominators", with(wineOf(1, 1, 1, 2, 1), wineOf(999999999989, 1, 1, 2, 999999999988), wineOf(999999999961, 1, 999999999960, 2, 1)), 0, api.ErrSum},
	} {
		n, e := CheckState(x.s)
		want(t, x.what, n, e, x.n, x.e)
	}
}

// TestStateTexts: P1.5 and P1.13.
func TestStateTexts(t *testing.T) {
	want(t, "any state", FormatState(api.ScaleState{Casks: []api.ScaleCask{{Name: "9 ;", Capacity: -3, Wine: wineOf(-1, 7, -5, 3, 0)}, {}}}), 0, "9 ; -3 -1 7:-5 3:0; 0 0;in 0;sold 0;lost 0", 0)
	for _, text := range []string{
		"in 1;sold 1;lost 1",
		twoCasks,
		"in 5 1;in 1;sold 1;lost 1",
		"lost 5 1 1:2;sold 7 1;in 4 1;in 1 1:2;sold 1;lost 1",
		"in 1 1:1 2:1;sold 999999999989 1:1 2:999999999988;lost 999999999989 1:999999999988 2:1",
	} {
		s, e := ParseState(text)
		want(t, "back", FormatState(s), e, text, api.OK)
	}
}

// TestParseStateErrors: P1.5.
func TestParseStateErrors(t *testing.T) {
	long := strings.Repeat("a 100 1;", 8000)
	for text, e := range map[string]api.Errno{
		"":                                           api.ErrSyntax,
		"in 1;sold 1":                                api.ErrSyntax,
		"in 1;sold 1;lost 1;":                        api.ErrSyntax,
		";in 1;sold 1;lost 1":                        api.ErrSyntax,
		"sold 1;in 1;lost 1":                         api.ErrSyntax,
		"in 1;sold 1;lose 1":                         api.ErrSyntax,
		"in;sold 1;lost 1":                           api.ErrSyntax,
		"in ;sold 1;lost 1":                          api.ErrSyntax,
		"in  1;sold 1;lost 1":                        api.ErrSyntax,
		"in 1 ;sold 1;lost 1":                        api.ErrSyntax,
		"in 1; sold 1;lost 1":                        api.ErrSyntax,
		"in 1;sold 1;lost 1\n":                       api.ErrSyntax,
		"in 01;sold 1;lost 1":                        api.ErrSyntax,
		"in -1;sold 1;lost 1":                        api.ErrSyntax,
		"in 1 5;sold 1;lost 1":                       api.ErrSyntax,
		"in 1 5:;sold 1;lost 1":                      api.ErrSyntax,
		"in 1 :5;sold 1;lost 1":                      api.ErrSyntax,
		"in 1 5:5:5;sold 1;lost 1":                   api.ErrSyntax,
		"in 1 5:-5;sold 1;lost 1":                    api.ErrSyntax,
		"in 1 -5:5;sold 1;lost 1":                    api.ErrSyntax,
		"in 1000000000000000000;sold 1;lost 1":       api.ErrSyntax,
		"in 1 1:1000000000000000000;sold 1;lost 1":   api.ErrSyntax,
		"a;in 1;sold 1;lost 1":                       api.ErrSyntax,
		"a 5;in 1;sold 1;lost 1":                     api.ErrSyntax,
		"a -5 1;in 1;sold 1;lost 1":                  api.ErrSyntax,
		"a 5 1 ;in 1;sold 1;lost 1":                  api.ErrSyntax,
		"a b 5 1;in 1;sold 1;lost 1":                 api.ErrSyntax,
		long + "in 1;sold 1;lost 1":                  api.ErrLarge,
		long[:59200] + "in 1;sold 1;lost 1":          api.ErrLarge,
		"a 1000000000000000000 1;in 1;sold 1;lost 1": api.ErrSyntax,
		"in 1 1000000000000000000:1;sold 1;lost 1":   api.ErrSyntax,
		"a 999999999999999999 1;in 1;sold 1;lost 1":  api.ErrRange,
		"in 1 999999999999999999:1;sold 1;lost 1":    api.ErrRange,
		"in 999999999999999999;sold 1;lost 1":        api.ErrRange,
		"in 1 1:999999999999999999;sold 1;lost 1":    api.ErrLarge,
		" 5 1;in 1;sold 1;lost 1":                    api.ErrName,
		"a:b 5 1;in 1;sold 1;lost 1":                 api.ErrName,
		"a\nb 5 1;in 1;sold 1;lost 1":                api.ErrName,
		"a 0 1;in 1;sold 1;lost 1":                   api.ErrRange,
		"a 5 1 10:6;in 1 10:6;sold 1;lost 1":         api.ErrFull,
		"a 5 1;a 5 1;in 1;sold 1;lost 1":             api.ErrExists,
		"in 2;sold 1;lost 1":                         api.ErrForm,
		"in 1 1:1;sold 1;lost 1":                     api.ErrSum,
	} {
		s, f := ParseState(text)
		want(t, fmt.Sprintf("%.60q", text), s, f, api.ScaleState{}, e)
	}
}

// TestTheLongestStateText: P1.5.
func TestTheLongestStateText(t *testing.T) {
	tail := ";in 1;sold 1;lost 1"
	name := strings.Repeat("x", api.MaxText-len(" 5 1"+tail))
	_, e := ParseState(name + " 5 1" + tail)
	want(t, "MaxText bytes", 0, e, 0, api.ErrName)
	_, e = ParseState(name + "x 5 1" + tail)
	want(t, "a byte more", 0, e, 0, api.ErrLarge)
}
