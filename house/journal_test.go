package house

import (
	"fmt"
	"slices"
	"strings"
	"testing"

	"criadera/api"
)

// A wrongEntries is entries with an error, whatever they mean.
type wrongEntries struct {
	what string
	log  []api.HouseEntry
	e    api.Errno
}

func allWrongEntries() []wrongEntries {
	long := strings.Repeat("x", 301)
	l := []wrongEntries{
		{"too many", times(61, "ann day 0"), api.ErrLarge},
		{"too many, and wrong ones", make([]api.HouseEntry, 61), api.ErrLarge},
		{"a long text", []api.HouseEntry{{By: "a", Text: long}}, api.ErrLarge},
		{"a long text by nobody", []api.HouseEntry{{Text: long}}, api.ErrForm},
		{"a long text with a line feed", []api.HouseEntry{{By: "a", Text: long + "\n"}}, api.ErrForm},
		{"the first wrong one", []api.HouseEntry{{By: "a"}, {By: "a", Text: long}, {}}, api.ErrLarge},
		{"the first wrong one of two", []api.HouseEntry{{By: "a"}, {}, {By: "a", Text: long}}, api.ErrForm},
		{"the last one that there may be", slices.Concat(times(59, "ann day 0"), make([]api.HouseEntry, 1)), api.ErrForm},
	}
	for _, by := range words("", " ", "a b", " a", "a ", "\n", "a\nb", "a\n", "\na") {
		l = append(l, wrongEntries{fmt.Sprintf("by %q", by), []api.HouseEntry{{By: by, Text: "x"}}, api.ErrForm})
	}
	for _, text := range words("\n", "a\n", "\na", "a\nb", "a b \n c") {
		l = append(l, wrongEntries{fmt.Sprintf("%q", text), []api.HouseEntry{{By: "a", Text: text}}, api.ErrForm})
	}
	return l
}

// sayings is entries that a journal keeps, though no house accepts them.
func sayings() []api.HouseEntry {
	return []api.HouseEntry{{By: "a"}, {By: "zoe", Text: " "}, {By: "9", Text: "  two  blanks "}, {By: "\xff\x00\t", Text: "\xff\x00\t\r"}, {By: "ä", Text: strings.Repeat("ü", 150)}, {By: strings.Repeat("b", 500), Text: "1 2 3"}, {By: "1", Text: "1 1 1"}}
}

// plainSum is the sum by the bytes of a text, one entry behind the other.
func plainSum(log []api.HouseEntry) int {
	sum := 1
	for _, x := range log {
		for _, bytes := range words(x.By, "\n", x.Text, "\n") {
			for i := range len(bytes) {
				sum = (sum*257 + int(bytes[i]) + 1) % 998244353
			}
		}
	}
	return sum
}

// TestSum: P10.6.
func TestSum(t *testing.T) {
	for _, x := range []struct {
		log []api.HouseEntry
		sum int
	}{
		{nil, 1}, {[]api.HouseEntry{{By: "a"}}, 23450233},
		{[]api.HouseEntry{{By: "a"}, {By: "b"}}, plainSum([]api.HouseEntry{{By: "a"}, {By: "b"}})},
		{sayings(), plainSum(sayings())}, {example(), plainSum(example())}, {times(60, "ann day 0"), plainSum(times(60, "ann day 0"))},
	} {
		sum, e := Sum(x.log)
		want(t, "the sum", sum, e, x.sum, api.OK)
	}
	for _, x := range allWrongEntries() {
		sum, e := Sum(x.log)
		refused(t, x.what, sum, e, x.e)
	}
}

// TestJournal: P10.6.
func TestJournal(t *testing.T) {
	for _, log := range [][]api.HouseEntry{nil, {{By: "a"}}, example(), sayings(), times(60, "ann day 0")} {
		text := ""
		for n, x := range log {
			text += fmt.Sprintf("%d %s %s\n", plainSum(log[:n+1]), x.By, x.Text)
		}
		journal, e := Journal(log)
		want(t, "the journal", journal, e, text, api.OK)
		read, bytes, e := Recover(journal)
		want(t, "the journal", read, e, log, api.OK)
		want(t, "its bytes", bytes, 0, len(text), 0)
	}
	journal, e := Journal([]api.HouseEntry{{By: "a"}})
	want(t, "the chapter's example", journal, e, "23450233 a \n", api.OK)
	for _, x := range allWrongEntries() {
		journal, e := Journal(x.log)
		refused(t, x.what, journal, e, x.e)
	}
}

// told is the line of an entry behind a log, with the right sum.
func told(log []api.HouseEntry, by, text string) string {
	return fmt.Sprintf("%d %s %s\n", plainSum(slices.Concat(log, []api.HouseEntry{{By: by, Text: text}})), by, text)
}

// TestRecoverCut: P10.6 and P10.10: a journal that is cut at any byte gives just the entries whose lines are whole.
func TestRecoverCut(t *testing.T) {
	for _, log := range [][]api.HouseEntry{example(), sayings()} {
		journal, _ := Journal(log)
		for cut := range len(journal) + 1 {
			whole := strings.Count(journal[:cut], "\n")
			read, bytes, e := Recover(journal[:cut])
			want(t, fmt.Sprint("cut at ", cut), read, e, log[:whole], api.OK)
			want(t, fmt.Sprint("cut at ", cut), bytes, 0, strings.LastIndex(journal[:cut], "\n")+1, 0)
		}
	}
}

// TestRecoverWrong: P10.6: what follows the first line that is not right is lost.
func TestRecoverWrong(t *testing.T) {
	log := entries("ann cask a 5")
	first, _ := Journal(log)
	right := told(log, "ann", "day 1")
	long := strings.Repeat("x", 300)
	for _, x := range []struct {
		line string
		log  []api.HouseEntry
	}{
		{right, entries("ann day 1")},
		{told(log, "ann", ""), []api.HouseEntry{{By: "ann"}}},
		{told(log, "ann", " "), []api.HouseEntry{{By: "ann", Text: " "}}},
		{told(log, "ann", long), []api.HouseEntry{{By: "ann", Text: long}}},
		{told(log, "ann", long+"x"), nil},
		{told(log, "", "day 1"), nil},
		{told(log, "", ""), nil},
		{told(nil, "ann", "day 1"), nil},
		{"0" + right, nil}, {" " + right, nil}, {"+" + right, nil}, {"-" + right, nil}, {"\n" + right, nil}, {"x" + right, nil},
		{strings.Replace(right, " ", "  ", 1), nil}, {strings.Replace(right, "day ", "day  ", 1), nil}, {strings.Replace(right, "day", "Day", 1), nil}, {strings.Replace(right, "\n", " \n", 1), nil},
		{strings.Replace(right, " ", "", 1), nil}, {strings.Replace(right, " ", "\t", 1), nil},
		{fmt.Sprint(plainSum(entries("ann cask a 5", "ann")), " ann\n"), nil},
		{fmt.Sprint(plainSum(entries("ann cask a 5", "ann")), "\n"), nil},
		{fmt.Sprint(plainSum(log), "\n"), nil}, {fmt.Sprint(plainSum(log), " \n"), nil}, {fmt.Sprint(plainSum(log), "  \n"), nil},
		{fmt.Sprint(plainSum(log)+998244353, " ann day 1\n"), nil},
		{"\n", nil}, {"x\n", nil}, {"", nil}, {strings.TrimSuffix(right, "\n"), nil}, {strings.Replace(right, "\n", "\r\n", 1), nil},
	} {
		all := slices.Concat(log, x.log)
		bytes := len(first)
		if x.log != nil {
			bytes += len(x.line)
		}
		read, n, e := Recover(first + x.line)
		want(t, fmt.Sprintf("%q", x.line), read, e, all, api.OK)
		want(t, fmt.Sprintf("%q", x.line), n, 0, bytes, 0)
		if x.log == nil && strings.HasSuffix(x.line, "\n") {
			read, n, e = Recover(first + x.line + right + told(slices.Concat(log, entries("ann day 1")), "ann", "day 2"))
			want(t, fmt.Sprintf("behind %q", x.line), read, e, log, api.OK)
			want(t, fmt.Sprintf("behind %q", x.line), n, 0, len(first), 0)
		}
	}
}

// TestRecoverLimits: P10.6.
func TestRecoverLimits(t *testing.T) {
	journal, _ := Journal(times(60, "ann day 0"))
	more := told(times(60, "ann day 0"), "ann", "day 0")
	log, bytes, e := Recover(journal + more)
	want(t, "more lines", log, e, times(60, "ann day 0"), api.OK)
	want(t, "more lines", bytes, 0, len(journal), 0)
	log, bytes, e = Recover(journal + strings.Repeat("x", 40000-len(journal)))
	want(t, "the longest journal", log, e, times(60, "ann day 0"), api.OK)
	want(t, "the longest journal", bytes, 0, len(journal), 0)
	for _, text := range words(journal+strings.Repeat("x", 40001-len(journal)), strings.Repeat("\n", 40001)) {
		log, bytes, e = Recover(text)
		refused(t, "too long", log, e, api.ErrLarge)
		want(t, "too long", bytes, 0, 0, 0)
	}
	log, bytes, e = Recover("")
	want(t, "no journal", log, e, nil, api.OK)
	want(t, "no journal", bytes, 0, 0, 0)
	by := strings.Repeat("b", 39980)
	log, bytes, e = Recover(told(nil, by, ""))
	want(t, "a long name", log, e, []api.HouseEntry{{By: by}}, api.OK)
	want(t, "a long name", bytes, 0, len(told(nil, by, "")), 0)
}
