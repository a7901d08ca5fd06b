package plan

import (
	"fmt"
	"math"
	"strings"
	"testing"

	"criadera/api"
)

// TestFormatSystem: P6.7.
func TestFormatSystem(t *testing.T) {
	for text, s := range map[string]api.PlanSystem{
		"0;1000 0 0 20000;1000 0 0 10000": pair(just(0)),
		"5;1000 10 20 7":                  systemWith(5, scale(1000, from(10, 20), 7)),
		"0":                               {},
		"-3":                              systemWith(-3),
		"9223372036854775807;-1 2 1 -9223372036854775808": systemWith(math.MaxInt, scale(-1, from(2, 1), math.MinInt)),
		"1" + strings.Repeat(";10 0 0 0", 9):              systemWith(1, scalesOf(9)...),
	} {
		if got := FormatSystem(s); got != text {
			t.Errorf("%q, want %q", got, text)
		}
	}
}

// TestParseSystem: P6.7.
func TestParseSystem(t *testing.T) {
	for text, s := range map[string]api.PlanSystem{
		"0;1000 0 0 20000;1000 0 0 10000":        pair(just(0)),
		"100000;20000 0 20000 100000":            systemWith(100000, scale(20000, from(0, 20000), 100000)),
		"1" + strings.Repeat(";10 0 0 0", 4):     systemWith(1, scalesOf(4)...),
		"0;1 0 1 0;2 0 1 0;3 0 1 0;20000 1 1 99": systemWith(0, scale(1, from(0, 1), 0), scale(2, from(0, 1), 0), scale(3, from(0, 1), 0), scale(20000, just(1), 99)),
	} {
		got, e := ParseSystem(text)
		want(t, text, got, e, s, api.OK)
	}
	for text, e := range map[string]api.Errno{
		"0":                                    api.ErrShape,
		"-1":                                   api.ErrShape,
		"0" + strings.Repeat(";10 0 0 0", 5):   api.ErrLarge,
		"0" + strings.Repeat(";0 0 0 0", 5000): api.ErrLarge,
		"100001;10 0 0 0":                      api.ErrRange,
		"-1;10 0 0 0":                          api.ErrRange,
		"999999999;10 0 0 0":                   api.ErrRange,
		"0;0 0 0 0":                            api.ErrRange,
		"0;10 0 0 -5":                          api.ErrRange,
		"0;10 0 0 999999999":                   api.ErrRange,
		"0;10 1 0 0":                           api.ErrOrder,
		"0;10 0 0 0;10 2 1 -1":                 api.ErrOrder,
	} {
		got, f := ParseSystem(text)
		refused(t, fmt.Sprintf("%.30q", text), got, f, e)
	}
	for _, text := range []string{
		"", ";", " ", "x", "0;", "0;;10 0 0 0", ";10 0 0 0", "0;10 0 0 0;", "0; 10 0 0 0", "0 ;10 0 0 0", " 0;10 0 0 0",
		"0;10 0 0", "0;10 0 0 0 0", "0;10  0 0 0", "0;10 0 0 0 ", "0;10 0 0 0\n", "0;10 0 0 x", "0;10 0 0 00", "0;010 0 0 0", "00;10 0 0 0",
		"+1;10 0 0 0", "-0;10 0 0 0", "0;10 -0 0 0", "0;+10 0 0 0", "0,10 0 0 0", "0 10 0 0 0", "0;10\t0 0 0", "0;1000000000 0 0 0", "1000000000;10 0 0 0",
		"0;10 0 0 -1000000000", "0;10 1 0 0;x", "-1;10 0 0", "0;10 0 0 0;10 0 0", "0;١ 0 0 0",
	} {
		got, e := ParseSystem(text)
		refused(t, fmt.Sprintf("%q", text), got, e, api.ErrSyntax)
	}
}
