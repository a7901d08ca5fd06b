package round

import (
	"fmt"
	"slices"
	"testing"

	"criadera/api"
)

// TestCheckTask: P9.3.
func TestCheckTask(t *testing.T) {
	for _, x := range []api.RoundTask{
		half(), wish(eight(), -1, -1, -1), wish(filled(0, 0, 0), 8, 5, 3), wish(eight(), 0, 0, 0),
		{Start: eight(), Content: numbers(8, -1, 1), Wine: numbers(3, 2, 1)},
		{Start: stand(numbers(1, 1, 1), numbers(1, 2, 3)), Content: numbers(0, 5, 3), Wine: numbers(0, 0, 3)},
	} {
		want(t, fmt.Sprint(x), 0, CheckTask(three(), x), 0, api.OK)
	}
	for _, x := range wrongTasks() {
		want(t, fmt.Sprint(x.t), 0, CheckTask(three(), x.t), 0, x.e)
	}
}

// TestWrongTasks: R1: the errors of a task come ahead of those of what stands behind it.
func TestWrongTasks(t *testing.T) {
	p := three()
	askings := map[string]func(x api.RoundTask) (bool, api.Errno){
		"Meets":      func(x api.RoundTask) (bool, api.Errno) { return nothing(Meets(p, x, api.RoundState{})) },
		"Distance":   func(x api.RoundTask) (bool, api.Errno) { return nothing(Distance(p, x)) },
		"Fewest":     func(x api.RoundTask) (bool, api.Errno) { return nothing(Fewest(p, x)) },
		"CheckMoves": func(x api.RoundTask) (bool, api.Errno) { return nothing(CheckMoves(p, x, make([]api.RoundMove, 501))) },
		"CheckLayers": func(x api.RoundTask) (bool, api.Errno) {
			return nothing(CheckLayers(p, x, make([][]api.RoundState, 4001)))
		},
		"CheckClosed": func(x api.RoundTask) (bool, api.Errno) {
			return nothing(CheckClosed(p, x, make([]api.RoundState, 4001)))
		},
		"Divisor":      func(x api.RoundTask) (bool, api.Errno) { return nothing(Divisor(p, x)) },
		"CheckDivisor": func(x api.RoundTask) (bool, api.Errno) { return only(CheckDivisor(p, x, 0)) },
		"WithVessel":   func(x api.RoundTask) (bool, api.Errno) { return nothings(WithVessel(p, x, 0)) },
		"WouldDo":      func(x api.RoundTask) (bool, api.Errno) { return nothing(WouldDo(p, x, 0)) },
	}
	for _, x := range wrongTasks() {
		allRefuse(t, fmt.Sprint(x.t), x.t, askings, x.e)
	}
}

// TestMeets: P9.3.
func TestMeets(t *testing.T) {
	end := func(content, wine []int) api.RoundTask {
		return api.RoundTask{Start: eight(), Content: content, Wine: wine}
	}
	for _, x := range []struct {
		t  api.RoundTask
		s  api.RoundState
		is bool
	}{
		{half(), filled(4, 4, 0), true},
		{half(), stand(numbers(4, 4, 0), numbers(3, 2, 0)), true},
		{half(), eight(), false},
		{half(), filled(4, 4, 1), false},
		{half(), filled(4, 3, 0), false},
		{half(), filled(5, 4, 0), false},
		{wish(eight(), -1, -1, -1), filled(1, 2, 3), true},
		{wish(eight(), -1, 0, -1), filled(1, 2, 3), false},
		{wish(eight(), 0, 0, 0), filled(0, 0, 0), true},
		{end(numbers(4, -1, -1), numbers(2, 0, 0)), stand(numbers(4, 4, 0), numbers(2, 1, 0)), true},
		{end(numbers(4, -1, -1), numbers(2, 0, 0)), stand(numbers(4, 4, 0), numbers(1, 2, 0)), false},
		{end(numbers(4, -1, -1), numbers(2, 0, 0)), stand(numbers(3, 4, 0), numbers(2, 2, 0)), false},
		{end(numbers(-1, -1, -1), numbers(0, 0, 3)), stand(numbers(4, 4, 0), numbers(3, 3, 0)), false},
		{end(numbers(-1, -1, -1), numbers(0, 0, 3)), stand(numbers(4, 4, 1), numbers(1, 1, 3)), true},
	} {
		is, e := Meets(three(), x.t, x.s)
		want(t, fmt.Sprint(x.t, x.s), is, e, x.is, api.OK)
	}
}

// wrongActs is acts beginning with 3 of the wine 1, 2 of the wine 2 and nothing in three, with their errors.
func wrongActs() map[api.RoundAct]api.Errno {
	l := map[api.RoundAct]api.Errno{
		act(0, 0, 0): api.ErrZero, act(2, 2, 9): api.ErrZero, act(1, 0, 0): api.ErrRange, act(2, 1, 51): api.ErrRange,
		act(0, 1, 4): api.ErrNone, act(2, 0, 1): api.ErrNone, act(1, 2, 3): api.ErrNone, act(0, 1, 50): api.ErrNone,
		act(0, 1, 1): api.ErrClash, act(1, 0, 2): api.ErrClash,
	}
	for _, n := range outside(0, 2) {
		l[act(n, 0, 0)], l[act(0, n, 0)], l[act(n, n, 0)] = api.ErrMissing, api.ErrMissing, api.ErrMissing
	}
	for _, n := range outside(1, 50) {
		l[act(0, 1, n)] = api.ErrRange
	}
	return l
}

// TestTaskOf: P9.3.
func TestTaskOf(t *testing.T) {
	mixed := stand(numbers(3, 2, 0), numbers(1, 2, 0))
	for _, x := range []struct {
		what string
		p    api.RoundPlant
		s    api.RoundState
		l    []api.RoundAct
		end  api.RoundState
	}{
		{"the chapter's acts", three(), eight(), []api.RoundAct{act(0, 1, 2), act(1, 2, 1)}, filled(6, 1, 1)},
		{"without hoses", build(nil, 8, 5, 3), eight(), []api.RoundAct{act(0, 1, 2), act(1, 2, 1)}, filled(6, 1, 1)},
		{"no acts", three(), mixed, nil, mixed},
		{"to an empty vessel", three(), mixed, []api.RoundAct{act(1, 2, 1)}, stand(numbers(3, 1, 1), numbers(1, 2, 2))},
		{"all of a vessel", three(), mixed, []api.RoundAct{act(1, 2, 2)}, stand(numbers(3, 0, 2), numbers(1, 0, 2))},
		{"another wine for a vessel that was emptied", three(), mixed, []api.RoundAct{act(1, 2, 2), act(0, 1, 3), act(2, 0, 1)}, stand(numbers(1, 3, 1), numbers(2, 1, 2))},
		{"to the brim", three(), eight(), []api.RoundAct{act(0, 1, 5), act(0, 2, 3)}, filled(0, 5, 3)},
		{"to and fro", three(), eight(), slices.Repeat([]api.RoundAct{act(0, 1, 5), act(1, 0, 5)}, 10), eight()},
		{"the greatest amount", full(50, 50), filled(50, 0), []api.RoundAct{act(0, 1, 50)}, filled(0, 50)},
	} {
		task, e := TaskOf(x.p, x.s, x.l)
		want(t, x.what, task, e, api.RoundTask{Start: x.s, Content: x.end.Content, Wine: x.end.Wine}, api.OK)
		is, e := Meets(x.p, task, x.end)
		want(t, x.what, is, e, true, api.OK)
	}
	for a, e := range wrongActs() {
		for _, l := range [][]api.RoundAct{{a}, {a, act(-1, 0, 0)}, {act(1, 2, 2), act(2, 1, 2), a}} {
			task, f := TaskOf(three(), mixed, l)
			refused(t, fmt.Sprint(l), task, f, e)
		}
	}
	for _, x := range []struct {
		s api.RoundState
		l []api.RoundAct
		e api.Errno
	}{
		{eight(), make([]api.RoundAct, 21), api.ErrLarge},
		{eight(), slices.Repeat([]api.RoundAct{act(-1, -1, 0)}, 21), api.ErrLarge},
		{eight(), []api.RoundAct{act(0, 2, 4)}, api.ErrFull},
		{eight(), []api.RoundAct{act(0, 1, 5), act(0, 1, 1)}, api.ErrFull},
		{eight(), []api.RoundAct{act(0, 1, 5), act(0, 1, 4)}, api.ErrNone},
		{stand(numbers(3, 4, 0), numbers(1, 2, 0)), []api.RoundAct{act(0, 1, 2)}, api.ErrFull},
		{mixed, []api.RoundAct{act(0, 2, 1), act(1, 2, 1)}, api.ErrClash},
	} {
		task, e := TaskOf(three(), x.s, x.l)
		refused(t, fmt.Sprint(x.s, x.l), task, e, x.e)
	}
}
