package plan

import (
	"fmt"
	"slices"
	"testing"

	"criadera/api"
)

// TestAgesAfter: P6.6.
func TestAgesAfter(t *testing.T) {
	steady := []api.Range{just(20000), just(10000)}
	s, begin := rising()
	single := systemWith(0, scale(3, just(0), 0))
	lossy := systemWith(2000, scale(1000, from(10, 20), 0), scale(500, from(0, 5), 0))
	for _, x := range []struct {
		what  string
		s     api.PlanSystem
		begin []api.Range
		draws []int
		l     []api.Range
	}{
		{"the chapter's example", pair(just(0)), steady, numbers(100), steady},
		{"two years", pair(just(0)), steady, numbers(100, 100), steady},
		{"the chapter's sixth example", s, begin, numbers(200), []api.Range{just(11000), just(9000)}},
		{"one decilitre more", s, begin, numbers(201), []api.Range{just(11000), just(8990)}},
		{"ages ahead of the year count", s, begin, numbers(1000), []api.Range{just(11000), just(1000)}},
		{"and then those behind it", s, begin, numbers(1000, 1000), []api.Range{just(2000), just(1000)}},
		{"no draws", s, begin, nil, begin},
		{"draws of 0", s, begin, numbers(0, 0, 0), []api.Range{just(13000), just(13000)}},
		{"rounded", single, []api.Range{just(10000)}, numbers(1), []api.Range{from(7666, 7667)}},
		{"rounded twice", single, []api.Range{just(10000)}, numbers(1, 1), []api.Range{from(6110, 6112)}},
		{"ranges", single, []api.Range{from(900, 6000)}, numbers(1), []api.Range{from(1600, 5000)}},
		{"losses, younger wine next", lossy, []api.Range{just(10000), just(5000)}, numbers(100), []api.Range{from(10400, 10450), from(5250, 5340)}},
		{"losses, older wine next", lossy, []api.Range{just(5000), from(10000, 11000)}, numbers(100), []api.Range{from(6550, 6720), from(9000, 10020)}},
		{"losses, wine as old next", lossy, []api.Range{just(5000), just(5000)}, numbers(100), []api.Range{just(6000), from(5250, 5340)}},
		{"which flow makes it least is not the same for both ends", lossy, []api.Range{from(5000, 9000), from(6000, 7000)}, numbers(100), []api.Range{from(6110, 9780), from(6000, 6900)}},
		{"thirty years", single, []api.Range{just(100000)}, make([]int, 30), []api.Range{just(130000)}},
		{"all of it", lossy, []api.Range{just(9000), just(5000)}, numbers(475), []api.Range{from(8020, 8060), from(3000, 3090)}},
	} {
		l, e := AgesAfter(x.s, x.begin, x.draws)
		want(t, x.what, l, e, x.l, api.OK)
	}
}

// yearErrors is what AgesAfter and FirstShort refuse.
func yearErrors(t *testing.T, refuse func(what string, s api.PlanSystem, begin []api.Range, draws []int, e api.Errno)) {
	t.Helper()
	s, begin := rising()
	for _, x := range []struct {
		what  string
		draws []int
		e     api.Errno
	}{
		{"31 years", make([]int, 31), api.ErrLarge},
		{"31 years and a wrong draw", append(numbers(-1), make([]int, 30)...), api.ErrLarge},
		{"a draw that is too great", numbers(0, 1001), api.ErrFull},
		{"one that is too great ahead of a wrong one", numbers(1001, -1), api.ErrRange},
		{"one that is too great behind a short year", numbers(900, 1001), api.ErrFull},
	} {
		refuse(x.what, s, begin, x.draws, x.e)
	}
	for _, draw := range outside(0, 20000) {
		refuse(fmt.Sprint(draw), s, begin, numbers(0, draw), api.ErrRange)
	}
	refuse("losses that may be too great", systemWith(0, scale(10, from(0, 10), 0), scale(5, just(0), 0)), begin, numbers(0), api.ErrFull)
	for _, wrong := range wrongAges() {
		refuse(fmt.Sprint(wrong.l), s, wrong.l, make([]int, 31), wrong.e)
	}
	for e, wrong := range wrongSystems() {
		refuse("a wrong system", wrong, nil, make([]int, 31), e)
	}
}

// TestAgesAfterErrors: P6.6.
func TestAgesAfterErrors(t *testing.T) {
	yearErrors(t, func(what string, s api.PlanSystem, begin []api.Range, draws []int, e api.Errno) {
		t.Helper()
		l, f := AgesAfter(s, begin, draws)
		refused(t, what, l, f, e)
	})
}

// TestFirstShort: P6.6.
func TestFirstShort(t *testing.T) {
	s, begin := rising()
	for _, x := range []struct {
		what  string
		begin []api.Range
		draws []int
		year  int
		scale int
		e     api.Errno
	}{
		{"the chapter's example", begin, numbers(201), 0, 1, api.OK},
		{"no scale is short", begin, numbers(200, 100), 0, 0, api.ErrNone},
		{"the second year", begin, numbers(200, 201), 1, 1, api.OK},
		{"the third year", begin, numbers(0, 0, 600), 2, 1, api.OK},
		{"both scales", begin, numbers(1000, 1000), 0, 1, api.OK},
		{"the first of both", []api.Range{just(9000), just(8000)}, numbers(100), 0, 0, api.OK},
		{"the least end counts", []api.Range{from(9499, 50000), just(50000)}, numbers(0), 0, 0, api.OK},
		{"it is just enough", []api.Range{from(9500, 50000), just(50000)}, numbers(0), 0, 0, api.ErrNone},
		{"short at first, but not behind the year", []api.Range{just(9600), just(8000)}, numbers(0), 0, 0, api.ErrNone},
		{"no years", []api.Range{just(0), just(0)}, nil, 0, 0, api.ErrNone},
	} {
		short, e := FirstShort(s, x.begin, x.draws)
		want(t, x.what, short, e, api.PlanShort{Year: x.year, Scale: x.scale}, x.e)
	}
	yearErrors(t, func(what string, s api.PlanSystem, begin []api.Range, draws []int, e api.Errno) {
		t.Helper()
		short, f := FirstShort(s, begin, draws)
		refused(t, what, short, f, e)
	})
}

// TestYearsStay: R3: nothing is written into ages, draws and systems, and results share no memory with them.
func TestYearsStay(t *testing.T) {
	s, begin := rising()
	kept, first, draws := systemWith(s.New, slices.Clone(s.Scales)...), slices.Clone(begin), numbers(5, 6)
	for _, count := range numbers(0, 1, 2) {
		l, _ := AgesAfter(s, begin, draws[:count])
		l[0], l[1] = just(7), just(7)
	}
	flows, _ := Flows(s, 5)
	flows[0] = just(7)
	steady, _ := Steady(s, 5)
	steady[0] = just(7)
	FirstShort(s, begin, draws)
	GreatestNow(s, begin)
	ForEver(s)
	want(t, "the system", s, 0, kept, 0)
	want(t, "the ages", begin, 0, first, 0)
	want(t, "the draws", draws, 0, numbers(5, 6), 0)
}
