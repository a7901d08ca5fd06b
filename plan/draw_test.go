package plan

import (
	"fmt"
	"testing"

	"criadera/api"
)

// TestForEver: P6.5.
func TestForEver(t *testing.T) {
	for _, x := range []struct {
		what        string
		s           api.PlanSystem
		draw, scale int
		e           api.Errno
	}{
		{"the chapter's example", pair(just(0)), 100, 0, api.OK},
		{"the greatest losses matter", pair(from(0, 20)), 60, 1, api.OK},
		{"the second scale breaks alone", systemWith(0, scale(1000, just(0), 0), scale(1000, just(0), 10000)), 100, 1, api.OK},
		{"the oldest scale breaks alone", systemWith(0, scale(1000, just(0), 20000), scale(1000, just(0), 0)), 100, 0, api.OK},
		{"older wine comes in", systemWith(20000, scale(1000, just(0), 22000)), 500, 0, api.OK},
		{"an age that is not whole", systemWith(0, scale(1000, just(0), 7143)), 139, 0, api.OK},
		{"an age that is just reached", systemWith(0, scale(1000, just(0), 8000)), 125, 0, api.OK},
		{"no Least: all of it", systemWith(0, scale(1000, just(0), 0)), 1000, 0, api.OK},
		{"a small further scale", systemWith(0, scale(1000, just(0), 0), scale(500, just(0), 0)), 500, 1, api.OK},
		{"a small further scale, which makes the first one young", systemWith(0, scale(1000, just(0), 3000), scale(500, just(0), 0)), 500, 0, api.OK},
		{"losses fill a scale", systemWith(0, scale(1000, from(0, 100), 0), scale(500, just(7), 0)), 393, 1, api.OK},
		{"the greatest draw", systemWith(0, scale(20000, just(0), 0)), 20000, -1, api.OK},
		{"the greatest draw, and a Least", systemWith(0, scale(20000, just(0), 1000), scale(20000, just(0), 1000)), 20000, -1, api.OK},
		{"one decilitre less than it", systemWith(0, scale(20000, from(0, 1), 0)), 19999, 0, api.OK},
		{"nothing is drawn, nothing flows", systemWith(0, scale(1, just(0), 100000)), 0, 0, api.OK},
		{"nothing flows from the oldest scale", systemWith(0, scale(1, just(0), 100000), scale(100, just(1), 100000)), 0, 0, api.OK},
		{"nothing flows, and another scale breaks", systemWith(0, scale(20000, just(0), 0), scale(100, just(1), 100000)), 0, 1, api.OK},
		{"losses break an age", systemWith(0, scale(100, just(1), 100001-1), scale(100, just(1), 50001)), 0, 0, api.ErrNone},
		{"losses are too great", systemWith(0, scale(1000, from(0, 11), 0), scale(10, just(0), 0)), 0, 0, api.ErrNone},
		{"losses are too great everywhere", systemWith(0, scale(20000, just(20000), 0), scale(20000, just(20000), 0), scale(20000, just(20000), 0), scale(20000, just(20000), 0)), 0, 0, api.ErrNone},
		{"losses are all that flows", systemWith(0, scale(1000, just(10), 0), scale(10, just(0), 0)), 0, 1, api.OK},
		{"new wine is old enough", systemWith(100000, scale(30, just(0), 100000)), 30, 0, api.OK},
	} {
		draw, n, e := ForEver(x.s)
		want(t, x.what, [2]int{draw, n}, e, [2]int{x.draw, x.scale}, x.e)
	}
	for e, wrong := range wrongSystems() {
		draw, n, f := ForEver(wrong)
		refused(t, "a wrong system", [2]int{draw, n}, f, e)
	}
}

// TestGreatestNow: P6.6.
func TestGreatestNow(t *testing.T) {
	s, begin := rising()
	for _, x := range []struct {
		what  string
		s     api.PlanSystem
		begin []api.Range
		draw  int
		e     api.Errno
	}{
		{"the chapter's example", s, begin, 200, api.OK},
		{"the least ages matter", s, []api.Range{from(10000, 90000), from(9000, 90000)}, 111, api.OK},
		{"the oldest scale matters", s, []api.Range{just(10000), just(9000)}, 111, api.OK},
		{"no Least: all of it", systemWith(0, scale(1000, just(0), 0)), []api.Range{just(0)}, 1000, api.OK},
		{"a small further scale", systemWith(0, scale(1000, just(0), 0), scale(500, just(0), 0)), []api.Range{just(0), just(0)}, 500, api.OK},
		{"losses fill a scale", systemWith(0, scale(1000, from(0, 100), 0), scale(500, just(7), 0)), []api.Range{just(0), just(0)}, 393, api.OK},
		{"losses are too great", systemWith(0, scale(1000, from(0, 11), 0), scale(10, just(0), 0)), []api.Range{just(0), just(0)}, 0, api.ErrNone},
		{"losses are all that flows", systemWith(0, scale(1000, just(10), 0), scale(10, just(0), 0)), []api.Range{just(0), just(0)}, 0, api.OK},
		{"the greatest draw", systemWith(0, scale(20000, just(0), 1000)), []api.Range{just(0)}, 20000, api.OK},
		{"just nothing", systemWith(0, scale(1000, just(0), 11000)), []api.Range{just(10000)}, 0, api.OK},
		{"too young in any case", systemWith(0, scale(1000, just(0), 11001)), []api.Range{just(10000)}, 0, api.ErrNone},
		{"the next scale is older, but a draw of 0 is short", systemWith(0, scale(1000, just(0), 6005), scale(1000, just(0), 0)), []api.Range{just(5000), just(10000)}, 0, api.ErrNone},
		{"the next scale is older", systemWith(0, scale(1000, just(0), 6000), scale(1000, just(0), 0)), []api.Range{just(5000), just(10000)}, 1000, api.OK},
		{"losses make up for a draw of 0", systemWith(0, scale(1000, from(1, 2), 6005), scale(1000, just(0), 0)), []api.Range{just(5000), just(10000)}, 998, api.OK},
		{"the least loss makes a scale youngest", systemWith(0, scale(1000, from(1, 2), 6006), scale(1000, just(0), 0)), []api.Range{just(5000), just(10000)}, 0, api.ErrNone},
		{"new wine is older than all", systemWith(100000, scale(1000, just(0), 1000)), []api.Range{just(0)}, 1000, api.OK},
		{"rounded down", systemWith(0, scale(3, just(0), 7667)), []api.Range{just(10000)}, 0, api.OK},
		{"rounded down to just enough", systemWith(0, scale(3, just(0), 7666)), []api.Range{just(10000)}, 1, api.OK},
	} {
		draw, e := GreatestNow(x.s, x.begin)
		want(t, x.what, draw, e, x.draw, x.e)
	}
	for _, wrong := range wrongAges() {
		draw, e := GreatestNow(s, wrong.l)
		refused(t, fmt.Sprint(wrong.l), draw, e, wrong.e)
	}
	for e, wrong := range wrongSystems() {
		draw, f := GreatestNow(wrong, nil)
		refused(t, "a wrong system", draw, f, e)
	}
}
