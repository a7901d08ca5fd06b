package flor

import (
	"fmt"
	"math"
	"testing"

	"criadera/api"
)

// TestFormat: P3.7.
func TestFormat(t *testing.T) {
	want(t, "the chapter's wine", FormatWine(fino), 0, "1000 1000 1500 1600 200 200", 0)
	want(t, "a wine of zeros", FormatWine(api.FlorWine{}), 0, "0 0 0 0 0 0", 0)
	want(t, "a wrong wine", FormatWine(wineOf(-1, 2, math.MinInt, 3, 4, math.MaxInt)), 0, "-1 2 -9223372036854775808 3 4 9223372036854775807", 0)
	want(t, "the chapter's loss", FormatLoss(api.FlorLoss{Cask: "butt", To: 100, Volume: from(10, 20)}), 0, "butt 0 100 10 20", 0)
	want(t, "a loss of zeros", FormatLoss(api.FlorLoss{}), 0, " 0 0 0 0", 0)
	want(t, "a wrong loss", FormatLoss(api.FlorLoss{Cask: "a b", From: -7, To: -8, Volume: from(math.MaxInt, -1)}), 0, "a b -7 -8 9223372036854775807 -1", 0)
}

// TestParseWine: P3.7.
func TestParseWine(t *testing.T) {
	for _, w := range []api.FlorWine{{}, fino, wineOf(1, 2, 3, 4, 5, 6), wineOf(100000, 100000, 10000, 10000, 100000, 100000)} {
		got, e := ParseWine(FormatWine(w))
		want(t, fmt.Sprint(w), got, e, w, api.OK)
	}
	for s, e := range map[string]api.Errno{
		"":                               api.ErrSyntax,
		" ":                              api.ErrSyntax,
		"     ":                          api.ErrSyntax,
		"1 1 1 1 1":                      api.ErrSyntax,
		"1 1 1 1 1 ":                     api.ErrSyntax,
		"1 1 1 1 1 1 ":                   api.ErrSyntax,
		" 1 1 1 1 1 1":                   api.ErrSyntax,
		"1 1 1 1 1 1 1":                  api.ErrSyntax,
		"1 1  1 1 1 1":                   api.ErrSyntax,
		"1 1 1 1 1\t1":                   api.ErrSyntax,
		"1 1 1 1 1 1\n":                  api.ErrSyntax,
		"1 1 1 1 1 x":                    api.ErrSyntax,
		"1 1 1 1 1 01":                   api.ErrSyntax,
		"1 1 1 1 1 00":                   api.ErrSyntax,
		"1 1 1 1 1 +1":                   api.ErrSyntax,
		"1 1 1 1 1 -0":                   api.ErrSyntax,
		"1 1 1 1 1 -":                    api.ErrSyntax,
		"1 1 1 1 1 1000000000":           api.ErrSyntax,
		"1000000000 1 1 1 1 1":           api.ErrSyntax,
		"1 1 1 1 1 -1000000000":          api.ErrSyntax,
		"2 1 1 1 1 99999999999999999999": api.ErrSyntax,
		"1 999999999 1 1 1 1":            api.ErrRange,
		"-999999999 1 1 1 1 1":           api.ErrRange,
		"1 1 1 1 1 -1":                   api.ErrRange,
		"1 100001 2 1 1 1":               api.ErrRange,
		"1 1 1 10001 2 1":                api.ErrRange,
		"1 1 1 1 1 100001":               api.ErrRange,
		"2 1 1 1 1 -1":                   api.ErrOrder,
		"1 1 2 1 1 1":                    api.ErrOrder,
		"1 1 1 1 2 1":                    api.ErrOrder,
	} {
		w, f := ParseWine(s)
		refused(t, fmt.Sprintf("%q", s), w, f, e)
	}
}

// TestParseLoss: P3.7.
func TestParseLoss(t *testing.T) {
	for _, l := range []api.FlorLoss{
		{Cask: "butt", To: 100, Volume: from(10, 20)},
		{Cask: "a"},
		{Cask: "abcdefghij-9", From: api.MaxDate, To: api.MaxDate, Volume: from(api.MaxVolume, api.MaxVolume)},
	} {
		got, e := ParseLoss(FormatLoss(l))
		want(t, fmt.Sprint(l), got, e, l, api.OK)
	}
	for s, e := range map[string]api.Errno{
		"":                        api.ErrSyntax,
		" ":                       api.ErrSyntax,
		"butt":                    api.ErrSyntax,
		"butt 0 100 10":           api.ErrSyntax,
		"butt 0 100 10 ":          api.ErrSyntax,
		"butt 0 100 10 20 ":       api.ErrSyntax,
		"butt 0 100 10 20 30":     api.ErrSyntax,
		" 0 100 10 20":            api.ErrSyntax,
		" butt 0 100 10 20":       api.ErrSyntax,
		"butt  0 100 10 20":       api.ErrSyntax,
		"butt 0 100  20":          api.ErrSyntax,
		"but t 0 100 10 20":       api.ErrSyntax,
		"butt 0 100 10\t20":       api.ErrSyntax,
		"butt 0 100 10 020":       api.ErrSyntax,
		"butt 0 100 10 -0":        api.ErrSyntax,
		"butt 0 100 10 x":         api.ErrSyntax,
		"9 0 100 10 1000000000":   api.ErrSyntax,
		"butt 1000000000 1 10 20": api.ErrSyntax,
		"9 100001 0 20 10":        api.ErrName,
		"abcdefghijklm 0 0 0 0":   api.ErrName,
		"b\tt 0 100 10 20":        api.ErrName,
		"bütt 0 100 10 20":        api.ErrName,
		"butt -1 100 10 20":       api.ErrRange,
		"butt 100001 9 20 10":     api.ErrRange,
		"butt 9 -1 20 10":         api.ErrRange,
		"butt 9 100001 20 10":     api.ErrRange,
		"butt 9 8 -1 10":          api.ErrOrder,
		"butt 0 100 -1 20":        api.ErrRange,
		"butt 0 100 10 100001":    api.ErrRange,
		"butt 0 100 999999999 0":  api.ErrRange,
		"butt 0 100 20 10":        api.ErrOrder,
	} {
		l, f := ParseLoss(s)
		refused(t, fmt.Sprintf("%q", s), l, f, e)
	}
}
