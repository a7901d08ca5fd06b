package plan

import (
	"fmt"
	"math"
	"testing"

	"criadera/api"
)

// TestCheckSystem: P6.4.
func TestCheckSystem(t *testing.T) {
	for what, s := range map[string]api.PlanSystem{
		"the chapter's system":  pair(just(0)),
		"with losses":           pair(from(10, 20)),
		"one scale":             systemWith(0, scale(1, just(0), 0)),
		"four scales":           systemWith(0, scalesOf(4)...),
		"the greatest numbers":  systemWith(100000, scale(20000, just(20000), 100000)),
		"any loss":              systemWith(0, scale(7, from(0, 7), 0)),
		"the oldest one is new": systemWith(100000, scale(7, just(0), 0), scale(9, just(0), 100000)),
	} {
		n, e := CheckSystem(s)
		want(t, what, n, e, 0, api.OK)
	}
	right := scale(10, just(0), 0)
	for _, x := range []struct {
		what string
		s    api.PlanSystem
		n    int
		e    api.Errno
	}{
		{"nothing", api.PlanSystem{}, 0, api.ErrShape},
		{"no scales, and a wrong age", systemWith(-1), 0, api.ErrShape},
		{"five scales, and a wrong age", systemWith(-1, scalesOf(5)...), 0, api.ErrLarge},
		{"five scales, one wrong", systemWith(0, append(scalesOf(4), scale(0, just(0), 0))...), 0, api.ErrLarge},
		{"a wrong age and a wrong scale", systemWith(100001, right, scale(0, just(0), 0)), 0, api.ErrRange},
		{"a wrong Volume and a wrong order", systemWith(0, right, scale(0, from(1, 0), -1)), 1, api.ErrRange},
		{"a loss greater than the Volume", systemWith(0, right, right, scale(10, from(0, 11), 0)), 2, api.ErrRange},
		{"a wrong order and a wrong Least", systemWith(0, right, scale(10, from(2, 1), -1)), 1, api.ErrOrder},
		{"the first wrong scale", systemWith(0, right, scale(10, just(0), -1), scale(10, from(2, 1), 0)), 1, api.ErrRange},
		{"the first scale", systemWith(0, scale(10, from(2, 1), 0), scale(0, just(0), 0)), 0, api.ErrOrder},
	} {
		n, e := CheckSystem(x.s)
		want(t, x.what, n, e, x.n, x.e)
	}
	for _, n := range outside(0, 100000) {
		number, e := CheckSystem(systemWith(n, right))
		want(t, fmt.Sprint("New ", n), number, e, 0, api.ErrRange)
		number, e = CheckSystem(systemWith(0, right, scale(10, just(0), n)))
		want(t, fmt.Sprint("Least ", n), number, e, 1, api.ErrRange)
	}
	for _, n := range outside(1, 20000) {
		number, e := CheckSystem(systemWith(0, right, scale(n, just(0), 0)))
		want(t, fmt.Sprint("Volume ", n), number, e, 1, api.ErrRange)
	}
	for _, wrong := range wrongRanges(10) {
		number, e := CheckSystem(systemWith(0, right, scale(10, wrong.r, 0)))
		want(t, fmt.Sprint("Loss ", wrong.r), number, e, 1, wrong.e)
	}
}

// TestFlows: P6.4.
func TestFlows(t *testing.T) {
	four := systemWith(0, scale(9, just(0), 0), scale(9, from(1, 3), 0), scale(9, from(0, 9), 0), scale(9, just(5), 0))
	for _, x := range []struct {
		what string
		s    api.PlanSystem
		draw int
		l    []api.Range
	}{
		{"the chapter's example", pair(from(10, 20)), 100, []api.Range{from(110, 120), from(120, 140)}},
		{"no losses", pair(just(0)), 100, []api.Range{just(100), just(100)}},
		{"nothing", pair(just(0)), 0, []api.Range{just(0), just(0)}},
		{"four scales", four, 0, []api.Range{just(0), from(1, 3), from(1, 12), from(6, 17)}},
		{"more than there is", four, 20000, []api.Range{just(20000), from(20001, 20003), from(20001, 20012), from(20006, 20017)}},
	} {
		l, e := Flows(x.s, x.draw)
		want(t, x.what, l, e, x.l, api.OK)
	}
	for _, draw := range outside(0, 20000) {
		l, e := Flows(pair(just(0)), draw)
		refused(t, fmt.Sprint(draw), l, e, api.ErrRange)
	}
	for e, wrong := range wrongSystems() {
		l, f := Flows(wrong, -1)
		refused(t, "a wrong system", l, f, e)
	}
}

// TestSteady: P6.4.
func TestSteady(t *testing.T) {
	odd := systemWith(777, scale(19997, just(0), 0), scale(20000, just(2), 0), scale(19999, just(4), 0), scale(19993, just(16), 0))
	for _, x := range []struct {
		what string
		s    api.PlanSystem
		draw int
		l    []api.Range
		e    api.Errno
	}{
		{"the chapter's example", pair(just(0)), 100, []api.Range{just(20000), just(10000)}, api.OK},
		{"with losses", pair(from(10, 20)), 100, []api.Range{from(15476, 17425), from(7142, 8334)}, api.OK},
		{"older wine", systemWith(5000, scale(1000, just(0), 0), scale(1000, just(0), 0)), 100, []api.Range{just(25000), just(15000)}, api.OK},
		{"not whole", systemWith(0, scale(10, just(0), 0)), 3, []api.Range{from(3333, 3334)}, api.OK},
		{"whole together", systemWith(0, scale(1, just(0), 0), scale(2, just(0), 0)), 1, []api.Range{just(3000), just(2000)}, api.OK},
		{"thirds that are whole together", systemWith(0, scale(7, just(0), 0), scale(8, just(0), 0)), 3, []api.Range{just(5000), from(2666, 2667)}, api.OK},
		{"all of it", systemWith(0, scale(1000, just(0), 0), scale(1000, just(0), 0)), 1000, []api.Range{just(2000), just(1000)}, api.OK},
		{"more than all of it", pair(just(0)), 1001, nil, api.ErrFull},
		{"as much as there is", pair(from(0, 450)), 100, []api.Range{from(2818, 20000), from(1000, 10000)}, api.OK},
		{"more than there may be", pair(from(0, 451)), 99, nil, api.ErrFull},
		{"nothing", pair(just(0)), 0, nil, api.ErrZero},
		{"losses alone", pair(just(10)), 0, []api.Range{just(150000), just(50000)}, api.OK},
		{"perhaps nothing", pair(from(0, 10)), 0, nil, api.ErrZero},
		{"nothing from the oldest scale alone", systemWith(0, scale(10, just(0), 0), scale(10, just(1), 0)), 0, nil, api.ErrZero},
		{"nothing, and too much", systemWith(0, scale(10, from(0, 10), 0), scale(5, just(0), 0)), 0, nil, api.ErrZero},
		{"too much in a further scale", systemWith(0, scale(10, from(1, 10), 0), scale(5, just(0), 0)), 0, nil, api.ErrFull},
		{"great numbers", odd, 19969, []api.Range{from(4781, 4782), from(3779, 3780), from(2778, 2779), from(1777, 1778)}, api.OK},
		{"the greatest age", systemWith(100000, scale(20000, just(1), 0), scale(20000, just(0), 0), scale(20000, just(0), 0), scale(20000, just(0), 0)), 0, []api.Range{just(80100000), just(60100000), just(40100000), just(20100000)}, api.OK},
	} {
		l, e := Steady(x.s, x.draw)
		want(t, x.what, l, e, x.l, x.e)
	}
	for _, draw := range append(outside(0, 20000), math.MinInt+1) {
		l, e := Steady(pair(just(0)), draw)
		refused(t, fmt.Sprint(draw), l, e, api.ErrRange)
	}
	for e, wrong := range wrongSystems() {
		l, f := Steady(wrong, -1)
		refused(t, "a wrong system", l, f, e)
	}
}
