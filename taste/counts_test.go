package taste

import (
	"fmt"
	"testing"

	"criadera/api"
)

// even is a panel of three casks, the last one without a glass, and three marks. The first two tasters are at odds.
func even() api.TastePanel {
	return api.TastePanel{Casks: 3, Marks: 3, Glasses: numbers(0, 1, 0), Tasters: [][]int{{2, 0, 2}, {1, 0, 1}, {2, 1, 1}}}
}

// TestCounts: P7.5.
func TestCounts(t *testing.T) {
	const none = -1
	for _, x := range []struct {
		p       api.TastePanel
		cask    int
		tasters []int
		counts  []int
		mark    int
	}{
		{table(), 0, numbers(0, 1), numbers(5, 1), 0},
		{table(), 1, numbers(0, 1), numbers(1, 3), 1},
		{table(), 1, numbers(0), numbers(1, 1), none},
		{table(), 0, numbers(0), numbers(2, 1), 0},
		{table(), 1, numbers(1), numbers(0, 2), 1},
		{table(), 0, nil, numbers(0, 0), none},
		{even(), 0, numbers(0, 1), numbers(0, 2, 2), none},
		{even(), 0, numbers(0, 2), numbers(0, 1, 3), 2},
		{even(), 0, numbers(0, 1, 2), numbers(0, 3, 3), none},
		{even(), 1, numbers(0, 1, 2), numbers(2, 1, 0), 0},
		{even(), 1, numbers(2), numbers(0, 1, 0), 1},
		{even(), 2, numbers(0, 1, 2), numbers(0, 0, 0), none},
		{panelOfOne(30, 8), 0, numbers(0, 1, 2, 3, 4, 5, 6, 7), numbers(240), 0},
		{panelOfOne(1, 1), 0, nil, numbers(0), none},
	} {
		what := fmt.Sprint("the cask ", x.cask, " by ", x.tasters)
		l, e := CountsOf(x.p, x.cask, x.tasters)
		want(t, what, l, e, x.counts, api.OK)
		mark, e := MarkOf(x.p, x.cask, x.tasters)
		if x.mark == none {
			refused(t, what, mark, e, api.ErrNone)
			continue
		}
		want(t, what, mark, e, x.mark, api.OK)
	}
}

// TestWrongCounts: P7.5: the errors of casks and of tasters.
func TestWrongCounts(t *testing.T) {
	for _, cask := range outside(0, 1) {
		l, e := CountsOf(table(), cask, numbers(1, 0))
		refused(t, fmt.Sprint("the cask ", cask), l, e, api.ErrMissing)
		n, e := MarkOf(table(), cask, nil)
		refused(t, fmt.Sprint("the cask ", cask), n, e, api.ErrMissing)
	}
	for e, lists := range wrongTasters() {
		for _, tasters := range lists {
			l, f := CountsOf(table(), 0, tasters)
			refused(t, fmt.Sprint("the tasters ", tasters), l, f, e)
			n, f := MarkOf(table(), 0, tasters)
			refused(t, fmt.Sprint("the tasters ", tasters), n, f, e)
		}
	}
}

// TestMarked: P7.5.
func TestMarked(t *testing.T) {
	for _, x := range []struct {
		what  string
		p     api.TastePanel
		least api.Frac
		marks []int
	}{
		{"the chapter's example", table(), share(1, 2), numbers(0, 1)},
		{"by all", table(), share(0, 1), numbers(0, 1)},
		{"two marks have the greatest count, and a cask has no glass", even(), share(0, 1), numbers(-1, 0, -1)},
		{"the steady ones are at odds", even(), share(1, 1), numbers(-1, 0, -1)},
		{"by nobody", panelOfTwo(numbers(0, 0, 1), numbers(0, 1, 0)), share(1, 2), numbers(-1, -1)},
		{"the unsteady one does not count", panelOfTwo(numbers(0, 0, 1), numbers(0, 1, 0), numbers(1, 1, 1)), share(1, 2), numbers(1, 1)},
		{"the unsteady one counts", panelOfTwo(numbers(0, 0, 1), numbers(0, 1, 0), numbers(1, 1, 1)), share(0, 1), numbers(1, -1)},
	} {
		l, e := Marked(x.p, x.least)
		want(t, x.what, l, e, x.marks, api.OK)
	}
	for _, x := range wrongShares() {
		l, e := Marked(table(), x.least)
		refused(t, fmt.Sprint(x.least), l, e, x.e)
	}
}
