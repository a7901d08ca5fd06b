package taste

import (
	"fmt"
	"math"
	"slices"
	"strings"
	"testing"

	"criadera/api"
)

// TestFormatSheet: P7.6.
func TestFormatSheet(t *testing.T) {
	for text, s := range map[string]api.TasteSheet{
		"butt-7 1,1,0": sheet("butt-7", 1, 1, 0),
		"butt-7 -":     sheet("butt-7"),
		"butt-7 5":     sheet("butt-7", 5),
		" -":           {},
		"a  b 0":       sheet("a  b", 0),
		"9 -1,9223372036854775807,-9223372036854775808": sheet("9", -1, math.MaxInt, math.MinInt),
		"x 7" + strings.Repeat(",7", 99):                sheet("x", slices.Repeat(numbers(7), 100)...),
	} {
		if got := FormatSheet(s); got != text {
			t.Errorf("%q, want %q", got, text)
		}
	}
}

// TestParseSheet: P7.6.
func TestParseSheet(t *testing.T) {
	for text, s := range map[string]api.TasteSheet{
		"butt-7 1,1,0":                   sheet("butt-7", 1, 1, 0),
		"butt-7 -":                       sheet("butt-7"),
		"abcdefghijkl 5":                 sheet("abcdefghijkl", 5),
		"x 5" + strings.Repeat(",5", 39): sheet("x", slices.Repeat(numbers(5), 40)...),
		"x 0" + strings.Repeat(",0", 39): sheet("x", make([]int, 40)...),
	} {
		got, e := ParseSheet(text)
		want(t, text, got, e, s, api.OK)
	}
	for text, e := range map[string]api.Errno{
		" -":                               api.ErrName,
		" 0,999":                           api.ErrName,
		"7 1":                              api.ErrName,
		"- 1":                              api.ErrName,
		"- -":                              api.ErrName,
		"a\n 1":                            api.ErrName,
		"a\t1 -":                           api.ErrName,
		"abcdefghijklm 1":                  api.ErrName,
		"ä 1":                              api.ErrName,
		"9 9" + strings.Repeat(",9", 40):   api.ErrName,
		"a 0" + strings.Repeat(",0", 40):   api.ErrLarge,
		"a 999" + strings.Repeat(",9", 40): api.ErrLarge,
		"a 0" + strings.Repeat(",0", 9999): api.ErrLarge,
		"a 6":                              api.ErrRange,
		"a 0,5,6":                          api.ErrRange,
		"a 999":                            api.ErrRange,
		"a -1":                             api.ErrRange,
		"a -999":                           api.ErrRange,
		"a 0" + strings.Repeat(",6", 39):   api.ErrRange,
	} {
		got, f := ParseSheet(text)
		refused(t, fmt.Sprintf("%.30q", text), got, f, e)
	}
	for _, text := range []string{
		"", " ", "a", "-", "1", "a ", "a  ", "a  1", " a 1", "a 1 ", "a 1 1", "a - ", "a 1\n", "a\n1", "a\t1", "a --", "a -,1", "a 1,-", "a ,", "a ,1", "a 1,", "a 1,,1", "a 1, 1", "a 1;1",
		"a 1000", "a 0000", "a 01", "a 00", "a +1", "a -0", "a -01", "a -1000", "a x", "a 1x", "a 0x1", "a 1.0", "a ١", "9 x", "a 6,x", " x", "a 0" + strings.Repeat(",0", 40) + ",",
	} {
		got, e := ParseSheet(text)
		refused(t, fmt.Sprintf("%.30q", text), got, e, api.ErrSyntax)
	}
}

// longest is the rule book with the longest text.
func longest() api.TasteBook {
	b := broad(6, 8)
	for n := range b.Marks {
		b.Marks[n] = fmt.Sprint("mark-------", n)
	}
	for n, c := range b.Classes {
		b.Classes[n] = class(fmt.Sprint("class------", n), c.Next, slices.Repeat(words("reason------"), 6)...)
	}
	return b
}

// TestFormatBook: P7.6.
func TestFormatBook(t *testing.T) {
	for text, b := range map[string]api.TasteBook{
		textOfRules: rules(),
		"marks raya palma\nbegin fino\nclass mosto oloroso/fat fino/thin\nclass oloroso oloroso/keep oloroso/keep\nclass fino oloroso/fallen fino/keep\n": changed(func(b *api.TasteBook) { b.Begin = 2 }),
		"marks raya\nbegin a-0\nclass a-0 a-1/on\nclass a-1 a-0/on\n":                                                                                     chain(2, 0),
		"marks m0\nbegin c0\nclass c0 c0/r\n": broad(1, 1),
	} {
		if got := FormatBook(b); got != text {
			t.Errorf("%q, want %q", got, text)
		}
	}
	for _, x := range wrongBooks() {
		if got := FormatBook(x.b); got != "" {
			t.Errorf("%s: %q", x.what, got)
		}
	}
}

// TestParseBook: P7.6 and P7.12.
func TestParseBook(t *testing.T) {
	for _, b := range []api.TasteBook{rules(), cured(), double(), chain(8, 3), broad(1, 1), broad(6, 8), longest()} {
		got, n, e := ParseBook(FormatBook(b))
		want(t, FormatBook(b), got, e, b, api.OK)
		want(t, "the number", n, 0, 0, 0)
	}
	got, _, e := ParseBook("marks begin\nbegin class\nclass class class/class\n")
	want(t, "first words as names", got, e, api.TasteBook{Marks: words("begin"), Classes: []api.TasteClass{class("class", numbers(0), "class")}}, api.OK)
}

// A wrongText is a text with an error, and the number of its first wrong line.
type wrongText struct {
	text string
	n    int
	e    api.Errno
}

// wrongLines is texts of rule books with wrong lines.
func wrongLines() []wrongText {
	var l []wrongText
	add := func(n int, texts ...string) {
		for _, text := range texts {
			l = append(l, wrongText{text, n, api.ErrSyntax})
		}
	}
	add(1, "", "\n", "marks", "marks\n", "marks \n", " marks a\n", "marks  a\n", "marks a \n", "marks a", "marks a b  c\n", "Marks a\n", "mark a\n", "begin x\n", "marks\ta\n", "\nmarks a\n", "marksa b\n", strings.Repeat("\n", 2000))
	for _, line := range words("", "begin", "begin ", "begin x y", "begin  x", " begin x", "begin x ", "Begin x", "class x", "x", "marks a") {
		add(2, "marks a\n"+line+"\nclass x x/r\n")
	}
	add(2, "marks a\n", "marks a\nbegin x", "marks a\n\n", "marks /\nx\n")
	add(3, "marks a\nbegin x\n", "marks a\nbegin x\nclass x x/r", "marks a\nbegin x\n\nclass x x/r\n", "marks a\nbegin x\nbegin x\nclass x x/r\n", "marks a\nbegin x\nmarks a\n")
	for _, line := range words("class", "class ", "class x", "class x x", "class x x/r x/r", "class x x/r/", "class x /x/r", "class x x//r", "class x/r", "class x x/r ", "class  x x/r", "class x  x/r", " class x x/r", "class x x /r", "class x x/ r", "classes x x/r", "x x/r", "Class x x/r", "class x/ x", "class\tx x/r") {
		add(3, "marks a\nbegin x\n"+line+"\n", "marks a\nbegin x\n"+line+"\nclass\n", "marks a\nbegin y\n"+line)
		add(4, "marks a\nbegin x\nclass x x/r\n"+line+"\n", "marks a\nbegin x\nclass x y/9\n"+line+"\nclass y x/r\n")
	}
	add(3, "marks a b\nbegin x\nclass x x/r\n", "marks a b\nbegin x\nclass x x/r x\n", "marks a b\nbegin x\nclass x x/r x/r x/r\n", "marks a b\nbegin x\nclass x x x/r/r\n")
	add(4, "marks a\nbegin x\nclass x x/r\n\n", "marks a\nbegin x\nclass x x/r\nclass y x/r", "marks a\nbegin x\nclass x x/r\n ", "marks a\nbegin x\nclass x x/r\nx\n")
	return l
}

// TestParseBookErrors: P7.6.
func TestParseBookErrors(t *testing.T) {
	sevenMarks := "marks a b c d e f g\nbegin x\nclass x x/r x/r x/r x/r x/r x/r x/r\n"
	l := []wrongText{
		{textOfRules + strings.Repeat("\n", 2001-len(textOfRules)), 0, api.ErrLarge},
		{strings.Repeat("\n", 2001), 0, api.ErrLarge},
		{"marks " + strings.Repeat("a", 3000), 0, api.ErrLarge},
		{"marks a\nbegin y\nclass x x/r\n", 0, api.ErrMissing},
		{"marks a\nbegin x\nclass x y/r\n", 0, api.ErrMissing},
		{"marks a\nbegin x\nclass x /r\n", 0, api.ErrMissing},
		{"marks a b\nbegin x\nclass x x/r y/r\n", 0, api.ErrMissing},
		{"marks a\nbegin x\nclass x x/r\nclass y X/r\n", 0, api.ErrMissing},
		{"marks a a\nbegin x\nclass x x/ y/\n", 0, api.ErrMissing},
		{"marks 9\nbegin 9\nclass x x/r\n", 0, api.ErrMissing},
		{"marks a\nbegin a\nclass x x/r\n", 0, api.ErrMissing},
		{"marks a\nbegin x-\nclass x x/r\n", 0, api.ErrMissing},
		{"marks a\nbegin y\n" + strings.Repeat("class x x/r\n", 9), 0, api.ErrMissing},
		{"marks a\nbegin x/y\nclass x/y x/r\n", 0, api.ErrMissing},
		{"marks a\nbegin x\nclass x x/\n", 0, api.ErrName},
		{"marks a\nbegin x\nclass x x/9\n", 0, api.ErrName},
		{"marks 9\nbegin x\nclass x x/\n", 0, api.ErrName},
		{"marks a/b\nbegin x\nclass x x/r\n", 0, api.ErrName},
		{"marks a\t\nbegin x\nclass x x/r\n", 0, api.ErrName},
		{"marks a\nbegin 9\nclass 9 9/r\n", 0, api.ErrName},
		{"marks a\nbegin abcdefghijklm\nclass abcdefghijklm abcdefghijklm/r\n", 0, api.ErrName},
		{"marks a\nbegin x/y\nclass x/y x/y\nclass x x/r\n", 0, api.ErrName},
		{"marks a a\nbegin x\nclass x x/r x/r\n", 0, api.ErrExists},
		{"marks a\nbegin x\nclass x x/r\nclass y y/r\nclass x x/r\n", 0, api.ErrExists},
		{sevenMarks, 0, api.ErrLarge},
		{"marks a\nbegin x\n" + strings.Repeat("class x x/r\n", 9), 0, api.ErrLarge},
		{"marks a" + strings.Repeat(" a", 900) + "\nbegin x\nclass x\n", 3, api.ErrSyntax},
	}
	for _, x := range append(l, wrongLines()...) {
		b, n, e := ParseBook(x.text)
		refused(t, fmt.Sprintf("%.60q", x.text), b, e, x.e)
		want(t, fmt.Sprintf("%.60q", x.text), n, 0, x.n, 0)
	}
}
