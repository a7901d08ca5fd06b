package gauge

import (
	"fmt"
	"math"
	"testing"

	"criadera/api"
)

// TestFormatGauging: P4.6.
func TestFormatGauging(t *testing.T) {
	for _, x := range []struct {
		g    api.GaugeReading
		text string
	}{
		{gauged("butt", 0, 500, 500), "butt 0 500 500"},
		{gauged("a", 7, 1, 100000), "a 7 1 100000"},
		{api.GaugeReading{}, " 0 0 0"},
		{gauged("a b", -7, math.MaxInt, math.MinInt), "a b -7 9223372036854775807 -9223372036854775808"},
	} {
		want(t, "a text", FormatGauging(x.g), 0, x.text, 0)
	}
}

// TestParseGauging: P4.6.
func TestParseGauging(t *testing.T) {
	for _, x := range []api.GaugeReading{
		gauged("butt", 0, 500, 500),
		gauged("a", 0, 0, 0),
		gauged("abcdefghij-9", api.MaxDate, 0, api.MaxVolume),
	} {
		g, e := ParseGauging(FormatGauging(x))
		want(t, fmt.Sprint(x), g, e, x, api.OK)
	}
	for s, e := range map[string]api.Errno{
		"":                       api.ErrSyntax,
		" ":                      api.ErrSyntax,
		"   ":                    api.ErrSyntax,
		"butt":                   api.ErrSyntax,
		"butt 0 500":             api.ErrSyntax,
		"butt 0 500 ":            api.ErrSyntax,
		"butt 0 500 500 ":        api.ErrSyntax,
		"butt 0 500 500\n":       api.ErrSyntax,
		"butt 0 500 500 500":     api.ErrSyntax,
		" butt 0 500 500":        api.ErrSyntax,
		" 0 500 500":             api.ErrSyntax,
		"butt  0 500 500":        api.ErrSyntax,
		"butt 0  500":            api.ErrSyntax,
		"butt 0\t500 500":        api.ErrSyntax,
		"butt x 500 500":         api.ErrSyntax,
		"butt 0 500 0x5":         api.ErrSyntax,
		"butt 00 500 500":        api.ErrSyntax,
		"butt 0 +500 500":        api.ErrSyntax,
		"butt 0 500 0500":        api.ErrSyntax,
		"butt -0 500 500":        api.ErrSyntax,
		"butt - 500 500":         api.ErrSyntax,
		"9 1000000000 500 500":   api.ErrSyntax,
		"9 0 500 1000000000":     api.ErrSyntax,
		"9 -1 501 500":           api.ErrName,
		"abcdefghijklm 0 0 0":    api.ErrName,
		"b\tt 0 500 500":         api.ErrName,
		"bütt 0 500 500":         api.ErrName,
		"butt -1 501 500":        api.ErrRange,
		"butt 100001 501 500":    api.ErrRange,
		"butt 999999999 500 500": api.ErrRange,
		"butt 0 -1 500":          api.ErrRange,
		"butt 0 500 -1":          api.ErrRange,
		"butt 0 500 100001":      api.ErrRange,
		"butt 0 100001 500":      api.ErrRange,
		"butt 0 501 500":         api.ErrOrder,
	} {
		g, f := ParseGauging(s)
		refused(t, fmt.Sprintf("%q", s), g, f, e)
	}
}
