package blend

import (
	"fmt"
	"math"
	"strings"
	"testing"

	"criadera/api"
)

func recipe(name string, casks []string, volumes ...int) api.BlendRecipe {
	return api.BlendRecipe{Name: name, Casks: casks, Volumes: volumes}
}

func words(l ...string) []string { return l }

// counted is a recipe with so many casks, and its text.
func counted(count int) (api.BlendRecipe, string) {
	r, text := recipe("x", nil), "x"
	for n := range count {
		r.Casks, r.Volumes = append(r.Casks, fmt.Sprint("c", n)), append(r.Volumes, n)
		text += fmt.Sprintf(" c%d=%d", n, n)
	}
	return r, text
}

// TestFormatRecipe: P8.6.
func TestFormatRecipe(t *testing.T) {
	long, text := counted(99)
	for want, r := range map[string]api.BlendRecipe{
		"oloroso dry=75 rich=25": recipe("oloroso", words("dry", "rich"), 75, 25),
		"oloroso":                recipe("oloroso", nil),
		"x dry=75":               recipe("x", words("dry", "rich"), 75),
		"x rich=25":              recipe("x", words("rich"), 25, 75, 0),
		"y":                      recipe("y", words("dry")),
		"z":                      recipe("z", nil, 9),
		"":                       {},
		"a  b = =-1 =9223372036854775807 =-9223372036854775808": recipe("a  b =", words("", "", ""), -1, math.MaxInt, math.MinInt),
		"x a=0 a=0": recipe("x", words("a", "a"), 0, 0),
		text:        long,
	} {
		if got := FormatRecipe(r); got != want {
			t.Errorf("%q, want %q", got, want)
		}
	}
}

// TestParseRecipe: P8.6 and P8.11.
func TestParseRecipe(t *testing.T) {
	ten, text := counted(10)
	for text, r := range map[string]api.BlendRecipe{
		"oloroso dry=75 rich=25":                recipe("oloroso", words("dry", "rich"), 75, 25),
		"oloroso":                               recipe("oloroso", nil),
		"abcdefghijkl A-1=0 abcd-fghijk2=10000": recipe("abcdefghijkl", words("A-1", "abcd-fghijk2"), 0, 10000),
		"a a=1":                                 recipe("a", words("a"), 1),
		text:                                    ten,
	} {
		got, e := ParseRecipe(text)
		want(t, text, got, e, r, api.OK)
		if got := FormatRecipe(r); got != text {
			t.Errorf("%q, want %q", got, text)
		}
	}
}

// TestParseRecipeErrors: P8.6.
func TestParseRecipeErrors(t *testing.T) {
	_, eleven := counted(11)
	for text, e := range map[string]api.Errno{
		"9":                                 api.ErrName,
		"=":                                 api.ErrName,
		"x=1":                               api.ErrName,
		"x=1 y=1":                           api.ErrName,
		"a\n":                               api.ErrName,
		"a\tb=1":                            api.ErrName,
		"abcdefghijklm":                     api.ErrName,
		"x 9=1":                             api.ErrName,
		"x -=1":                             api.ErrName,
		"x a=1 a=1 ä=1":                     api.ErrName,
		"x a=10001 a_=1":                    api.ErrName,
		"x \ta=1":                           api.ErrName,
		"x abcdefghijklm=1":                 api.ErrName,
		"9 a=10001":                         api.ErrName,
		eleven + " 9=1":                     api.ErrName,
		eleven:                              api.ErrLarge,
		eleven + " c0=999999":               api.ErrLarge,
		"x" + strings.Repeat(" a=1", 99999): api.ErrLarge,
		"x a=1 a=1":                         api.ErrExists,
		"x a=1 a=10001":                     api.ErrExists,
		"x a=1 a=1 b=10001":                 api.ErrExists,
		"x a=1 b=1 a=1":                     api.ErrExists,
		"x a=10001":                         api.ErrRange,
		"x a=999999":                        api.ErrRange,
		"x a=1 b=10001 b=1":                 api.ErrRange,
		"x a=-1":                            api.ErrRange,
		"x a=-999999":                       api.ErrRange,
	} {
		got, f := ParseRecipe(text)
		refused(t, fmt.Sprintf("%.30q", text), got, f, e)
	}
	for _, text := range []string{
		"", " ", "  ", " x", "x ", "x  a=1", "x a=1 ", " x a=1", "x a=1  b=1", "x a", "x a 1", "x a= 1", "x a =1", "x =1", "x =", "x a=", "x a==1", "x a=1=", "x a=1=1", "oloroso dry=75=1", "x =a=1",
		"x a=1000000", "x a=0000000", "x a=01", "x a=00", "x a=+1", "x a=-0", "x a=-01", "x a=-1000000", "x a=x", "x a=1x", "x a=0x1", "x a=1.0", "x a=١", "x a=1\n", "x a=1\tb=1", "x a=1,b=1", "9 a", "x 9=1 a", "x a=1 a=1 b",
		eleven + " a", eleven + " ", eleven + "=",
	} {
		got, e := ParseRecipe(text)
		refused(t, fmt.Sprintf("%.30q", text), got, e, api.ErrSyntax)
	}
}
