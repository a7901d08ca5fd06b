package age

import (
	"fmt"
	"testing"

	"criadera/api"
)

// TestShares: P2.2.
func TestShares(t *testing.T) {
	unit := at(api.Unit)
	for _, x := range []struct {
		text  string
		turns int
		want  [][]api.Range
		e     api.Errno
	}{
		{oneCask, 1, [][]api.Range{{at(250000000), at(750000000)}}, api.OK},
		{oneCask, 2, [][]api.Range{{at(250000000), at(187500000), at(562500000)}}, api.OK},
		{twoCasks, 2, [][]api.Range{{at(0), at(62500000), at(937500000)}, {at(250000000), at(187500000), at(562500000)}}, api.OK},
		{exchange, 1, [][]api.Range{{at(0), unit}, {at(0), unit}, nil}, api.OK},
		{through, 2, [][]api.Range{nil, {at(0), at(0), unit}}, api.OK},
		// Of a: 3/16, then 3/16 of 13/16 = 39/256, then 169/256.
		{part, 2, [][]api.Range{nil, {at(187500000), at(152343750), at(660156250)}, {at(0), at(0), unit}, {at(0), at(0), unit}}, api.OK},
		{"system s\ncask a 3 3\ndays 1\ndraw a 1\nfill a 1\n", 1, [][]api.Range{{{Lo: 333333333, Hi: 333333334}, {Lo: 666666666, Hi: 666666667}}}, api.OK},
		{oneCask, 0, nil, api.ErrRange},
		{oneCask, 41, nil, api.ErrRange},
		{oneCask, -1, nil, api.ErrRange},
	} {
		for name, by := range map[string]func(api.ScaleSystem, int) ([][]api.Range, api.Errno){"ByReplay": ByReplay, "ByPowers": ByPowers} {
			l, e := by(told(t, x.text), x.turns)
			want(t, fmt.Sprint(name, " of ", x.turns, " turns of ", x.text), l, e, x.want, x.e)
		}
	}
	l, e := ByPowers(told(t, oneCask), 40)
	want(t, "40 turns", len(l[0]), e, 41, api.OK)
	want(t, "the old wine behind 40 turns", l[0][40], e, api.Range{Lo: 10056, Hi: 10057}, api.OK)
}

// TestDays: P2.3.
func TestDays(t *testing.T) {
	s := told(t, oneCask)
	for _, x := range []struct {
		turn, want int
		e          api.Errno
	}{
		{0, 80, api.OK}, {1, 260, api.OK}, {2, 445, api.OK}, {3, 625, api.OK}, {10000, 5000*365 + 80, api.OK},
		{-1, 0, api.ErrRange}, {10001, 0, api.ErrRange},
	} {
		n, e := DayOf(s, x.turn)
		want(t, fmt.Sprint("DayOf ", x.turn), n, e, x.want, x.e)
	}
	for _, x := range []struct {
		text       string
		turns, old int
		want       []api.Range
		e          api.Errno
	}{
		{oneCask, 2, 100, []api.Range{{Lo: 236, Hi: 237}}, api.OK},
		{oneCask, 1, 0, []api.Range{at(60)}, api.OK},
		{oneCask, 1, 100000, []api.Range{at(75060)}, api.OK},
		{part, 1, 100, []api.Range{{}, {Lo: 81, Hi: 82}, at(100), at(100)}, api.OK},
		{part, 3, 0, []api.Range{{}, {Lo: 241, Hi: 242}, at(365), at(365)}, api.OK},
		{oneCask, 0, -1, nil, api.ErrRange},
		{oneCask, 41, 0, nil, api.ErrRange},
		{oneCask, 1, -1, nil, api.ErrRange},
		{oneCask, 1, 100001, nil, api.ErrRange},
	} {
		l, e := MeanDays(told(t, x.text), x.turns, x.old)
		want(t, fmt.Sprint("MeanDays of ", x.turns, x.old, x.text), l, e, x.want, x.e)
	}
}

// TestLeastShares: P2.4, of AtLeast and Greatest.
func TestLeastShares(t *testing.T) {
	s, e := told(t, oneCask), told(t, part)
	for _, x := range []struct {
		s     api.ScaleSystem
		turns int
		x     api.AgeShare
		want  api.Range
		e     api.Errno
	}{
		{s, 2, api.AgeShare{Age: 0}, at(api.Unit), api.OK},
		{s, 2, api.AgeShare{Age: 1, Part: -5}, at(750000000), api.OK},
		{s, 2, api.AgeShare{Age: 2}, at(562500000), api.OK},
		{e, 2, api.AgeShare{Cask: 3, Age: 2}, at(api.Unit), api.OK},
		{s, 0, api.AgeShare{Cask: 1}, api.Range{}, api.ErrRange},
		{s, 2, api.AgeShare{Cask: 1, Age: -1}, api.Range{}, api.ErrMissing},
		{s, 2, api.AgeShare{Cask: -1, Age: -1}, api.Range{}, api.ErrMissing},
		{e, 2, api.AgeShare{Cask: 0, Age: -1}, api.Range{}, api.ErrZero},
		{s, 2, api.AgeShare{Age: -1}, api.Range{}, api.ErrRange},
		{s, 2, api.AgeShare{Age: 3}, api.Range{}, api.ErrRange},
	} {
		r, e := AtLeast(x.s, x.turns, x.x)
		want(t, fmt.Sprint("AtLeast ", x.turns, x.x), r, e, x.want, x.e)
	}
	for _, x := range []struct {
		s     api.ScaleSystem
		turns int
		x     api.AgeShare
		want  int
		e     api.Errno
	}{
		{s, 2, api.AgeShare{Part: 0}, 2, api.OK},
		{s, 2, api.AgeShare{Part: 562500000, Age: -5}, 2, api.OK},
		{s, 2, api.AgeShare{Part: 562500001}, 1, api.OK},
		{s, 2, api.AgeShare{Part: 750000000}, 1, api.OK},
		{s, 2, api.AgeShare{Part: 750000001}, 0, api.OK},
		{s, 2, api.AgeShare{Part: api.Unit}, 0, api.OK},
		{e, 2, api.AgeShare{Cask: 2, Part: api.Unit}, 2, api.OK},
		{s, 41, api.AgeShare{Cask: 1}, 0, api.ErrRange},
		{s, 2, api.AgeShare{Cask: 1, Part: -1}, 0, api.ErrMissing},
		{e, 2, api.AgeShare{Cask: 0, Part: -1}, 0, api.ErrZero},
		{s, 2, api.AgeShare{Part: -1}, 0, api.ErrRange},
		{s, 2, api.AgeShare{Part: api.Unit + 1}, 0, api.ErrRange},
	} {
		n, e := Greatest(x.s, x.turns, x.x)
		want(t, fmt.Sprint("Greatest ", x.turns, x.x), n, e, x.want, x.e)
	}
	// 2/3 is more than 666666666 parts, and less than 666666667: the share is exact.
	third := told(t, "system s\ncask a 3 3\ndays 1\ndraw a 1\nfill a 1\n")
	for part, age := range map[int]int{666666666: 1, 666666667: 0} {
		n, e := Greatest(third, 1, api.AgeShare{Part: part})
		want(t, "Greatest of a third", n, e, age, api.OK)
	}
}

// crossed: behind two turns a has a greater share of at least the age 1, and b of the age 2 (the old wine).
const crossed = "system s\ncask a 20 10\ncask b 10 10\ncask c 20 10\ndays 3\ndraw a 9\nmove c a 9\nfill c 9\ndraw b 5\nfill b 5\n"

// TestOlder: P2.4.
func TestOlder(t *testing.T) {
	for _, x := range []struct {
		text  string
		turns int
		casks [2]int
		want  int
		e     api.Errno
	}{
		{twoCasks, 2, [2]int{0, 1}, api.AnswerYes, api.OK},
		{twoCasks, 2, [2]int{1, 0}, api.AnswerNo, api.OK},
		{twoCasks, 2, [2]int{1, 1}, api.AnswerMaybe, api.OK},
		{cycle, 2, [2]int{1, 3}, api.AnswerMaybe, api.OK},
		{crossed, 2, [2]int{0, 1}, api.AnswerMaybe, api.OK},
		{crossed, 2, [2]int{1, 0}, api.AnswerMaybe, api.OK},
		{crossed, 1, [2]int{0, 1}, api.AnswerYes, api.OK},
		{part, 2, [2]int{2, 1}, api.AnswerYes, api.OK},
		{part, 2, [2]int{1, 2}, api.AnswerNo, api.OK},
		{part, 2, [2]int{3, 2}, api.AnswerMaybe, api.OK},
		{part, 0, [2]int{9, 9}, 0, api.ErrRange},
		{part, 2, [2]int{4, 0}, 0, api.ErrMissing},
		{part, 2, [2]int{-1, 1}, 0, api.ErrMissing},
		{part, 2, [2]int{0, 4}, 0, api.ErrZero},
		{part, 2, [2]int{1, 4}, 0, api.ErrMissing},
		{part, 2, [2]int{1, -1}, 0, api.ErrMissing},
		{part, 2, [2]int{1, 0}, 0, api.ErrZero},
	} {
		n, e := Older(told(t, x.text), x.turns, x.casks)
		want(t, fmt.Sprint("Older ", x.turns, x.casks, x.text), n, e, x.want, x.e)
	}
}

// TestSold: P2.5.
func TestSold(t *testing.T) {
	for _, x := range []struct {
		text  string
		turns int
		want  []api.Range
		e     api.Errno
	}{
		{oneCask, 1, []api.Range{at(0), at(api.Unit)}, api.OK},
		{oneCask, 2, []api.Range{at(0), at(250000000), at(750000000)}, api.OK},
		{through, 2, []api.Range{at(api.Unit), at(0), at(0)}, api.OK},
		// 45 of the 60 that are sold are new; then 15 of the 80 of a, of 15.
		{part, 2, []api.Range{at(750000000), at(46875000), at(203125000)}, api.OK},
		{exchange, 2, nil, api.ErrNone},
		{still, 1, nil, api.ErrNone},
		{still, 0, nil, api.ErrRange},
		{oneCask, 41, nil, api.ErrRange},
	} {
		l, e := SoldAges(told(t, x.text), x.turns)
		want(t, fmt.Sprint("SoldAges ", x.turns, x.text), l, e, x.want, x.e)
	}
}
