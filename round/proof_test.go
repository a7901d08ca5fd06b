package round

import (
	"fmt"
	"slices"
	"testing"

	"criadera/api"
)

// TestCheckLayers: P9.5.
func TestCheckLayers(t *testing.T) {
	first, second := states(8, 0, 0), states(3, 5, 0, 5, 0, 3)
	third := states(0, 5, 3, 3, 2, 3, 5, 3, 0)
	line := build(pairs(0, 1, 1, 2), 1, 1, 1)
	for _, x := range []struct {
		what  string
		p     api.RoundPlant
		t     api.RoundTask
		lists [][]api.RoundState
		n     int
		e     api.Errno
	}{
		{"the chapter's layers", three(), half(), layersOfEight()[:7], 7, api.OK},
		{"fewer", three(), half(), layersOfEight()[:2], 2, api.OK},
		{"one", three(), half(), [][]api.RoundState{first}, 1, api.OK},
		{"one too many", three(), half(), layersOfEight(), 0, api.ErrProof},
		{"without lists", three(), half(), nil, 0, api.ErrProof},
		{"without lists, of what is so", three(), wish(eight(), 8, 0, 0), nil, 0, api.ErrProof},
		{"what is so", three(), wish(eight(), 8, 0, 0), [][]api.RoundState{first}, 0, api.ErrProof},
		{"an empty list", three(), half(), make([][]api.RoundState, 1), 0, api.ErrProof},
		{"an empty list first", three(), half(), [][]api.RoundState{nil, first, second}, 0, api.ErrProof},
		{"the second layer first", three(), half(), [][]api.RoundState{second, first, third}, 0, api.ErrProof},
		{"an empty list at the end", three(), half(), [][]api.RoundState{first, nil}, 0, api.ErrProof},
		{"a layer less on the way", three(), half(), [][]api.RoundState{first, third}, 0, api.ErrProof},
		{"a state less on the way", three(), half(), [][]api.RoundState{first, second[:1], third}, 0, api.ErrProof},
		{"a state less at the end", three(), half(), [][]api.RoundState{first, second, third[:2]}, 0, api.ErrProof},
		{"a state two lists too late", three(), half(), [][]api.RoundState{first, second[:1], third, second}, 0, api.ErrProof},
		{"a state too early", three(), half(), [][]api.RoundState{slices.Concat(first, second), third}, 2, api.OK},
		{"all in one", three(), half(), [][]api.RoundState{slices.Concat(layersOfEight()[:7]...)}, 1, api.OK},
		{"in another order, and some twice", three(), half(), [][]api.RoundState{slices.Repeat(first, 3), {second[1], second[0], first[0], second[1]}, slices.Concat(third, second)}, 3, api.OK},
		{"a state that is not reached", three(), half(), [][]api.RoundState{slices.Concat(first, states(0, 0, 0)), second}, 2, api.OK},
		{"one that is not reached, and leads on", three(), half(), [][]api.RoundState{slices.Concat(first, states(1, 0, 0)), second}, 0, api.ErrProof},
		{"one that is not reached, and is the end", three(), half(), [][]api.RoundState{first, slices.Concat(second, states(4, 4, 0))}, 0, api.ErrProof},
		{"an empty list on the way", line, wish(filled(1, 0, 0), 1, 1, -1), [][]api.RoundState{states(1, 0, 0, 0, 1, 0, 0, 0, 1), nil, nil}, 3, api.OK},
		{"more lists than a task with a way needs", line, wish(filled(1, 0, 0), 0, 0, 1), [][]api.RoundState{states(1, 0, 0), states(0, 1, 0), nil}, 0, api.ErrProof},
		{"a task without a way", two(), odd(), [][]api.RoundState{{filled(6, 0)}, {filled(2, 4)}, nil, nil}, 4, api.OK},
		{"too many lists", two(), odd(), make([][]api.RoundState, 4001), 0, api.ErrLarge},
		{"too many states", three(), half(), [][]api.RoundState{slices.Repeat(first, 4000)}, 0, api.ErrLarge},
		{"too many of both", three(), half(), [][]api.RoundState{slices.Repeat(first, 1999), slices.Repeat(second, 1000)}, 0, api.ErrLarge},
		{"too many wrong ones", three(), half(), [][]api.RoundState{make([]api.RoundState, 4000)}, 0, api.ErrLarge},
		{"as many as may be", three(), half(), [][]api.RoundState{slices.Repeat(first, 3999)}, 1, api.OK},
		{"as many of both as may be", three(), half(), [][]api.RoundState{slices.Repeat(first, 1998), slices.Repeat(second, 1000)}, 2, api.OK},
		{"as many lists as may be", two(), odd(), slices.Concat([][]api.RoundState{{filled(6, 0), filled(2, 4)}}, make([][]api.RoundState, 3997)), 3998, api.OK},
		{"the first wrong state of all lists", three(), half(), [][]api.RoundState{nil, {eight(), stand(numbers(9, 0, 0), numbers(1, 0, 0))}, {{}}}, 0, api.ErrRange},
	} {
		n, e := CheckLayers(x.p, x.t, x.lists)
		want(t, x.what, n, e, x.n, x.e)
	}
}

// TestCheckClosed: P9.5.
func TestCheckClosed(t *testing.T) {
	all := slices.Concat(layersOfEight()...)
	six, twoFour := filled(6, 0), filled(2, 4)
	never := wish(eight(), 4, 4, 1)
	for _, x := range []struct {
		what string
		p    api.RoundPlant
		t    api.RoundTask
		l    []api.RoundState
		n    int
		e    api.Errno
	}{
		{"the chapter's second example", two(), odd(), []api.RoundState{six, twoFour}, 2, api.OK},
		{"in another order", two(), odd(), []api.RoundState{twoFour, six}, 2, api.OK},
		{"with one that is not reached", two(), odd(), []api.RoundState{twoFour, filled(0, 0), six}, 3, api.OK},
		{"with one that is not reached, and leads on", two(), odd(), []api.RoundState{twoFour, filled(4, 0), six}, 0, api.ErrProof},
		{"with the end that is not reached", two(), odd(), []api.RoundState{twoFour, six, filled(0, 3), filled(3, 0)}, 0, api.ErrProof},
		{"without the state at first", two(), odd(), []api.RoundState{filled(0, 4), filled(4, 0)}, 0, api.ErrProof},
		{"none", two(), odd(), nil, 0, api.ErrProof},
		{"one less", two(), odd(), []api.RoundState{six}, 0, api.ErrProof},
		{"only what the first one leads to", two(), odd(), []api.RoundState{twoFour}, 0, api.ErrProof},
		{"all states that can be reached", three(), never, all, 16, api.OK},
		{"all but the last one", three(), never, all[:15], 0, api.ErrProof},
		{"of a task with a way", three(), half(), all, 0, api.ErrProof},
		{"of a task with a way, without the end", three(), half(), all[:15], 0, api.ErrProof},
		{"what is so", two(), wish(six, 6, 0), []api.RoundState{six, twoFour}, 0, api.ErrProof},
		{"no moves", full(5, 5), wish(stand(numbers(3, 2), numbers(1, 2)), 5, 0), []api.RoundState{stand(numbers(3, 2), numbers(1, 2))}, 1, api.OK},
		{"the same contents of another wine", full(5, 5), wish(stand(numbers(3, 2), numbers(1, 2)), 5, 0), []api.RoundState{stand(numbers(3, 2), numbers(2, 1))}, 0, api.ErrProof},
		{"one twice", two(), odd(), []api.RoundState{six, twoFour, six}, 0, api.ErrDouble},
		{"one twice ahead of a wrong one", two(), odd(), []api.RoundState{six, six, {}}, 0, api.ErrDouble},
		{"a wrong one ahead of one twice", two(), odd(), []api.RoundState{six, {}, six}, 0, api.ErrShape},
		{"a wrong one twice", two(), odd(), []api.RoundState{filled(7, 0), filled(7, 0)}, 0, api.ErrRange},
		{"too many", two(), odd(), make([]api.RoundState, 4001), 0, api.ErrLarge},
		{"not too many", two(), odd(), make([]api.RoundState, 4000), 0, api.ErrShape},
	} {
		n, e := CheckClosed(x.p, x.t, x.l)
		want(t, x.what, n, e, x.n, x.e)
	}
	p, s := just()
	layers, _ := Layers(p, s)
	n, e := CheckClosed(p, wish(s, 13, 16, 6, 11, 7), slices.Concat(layers...))
	want(t, "as many as may be", n, e, 4000, api.OK)
}

// TestDivisor: P9.5.
func TestDivisor(t *testing.T) {
	for _, x := range []struct {
		p api.RoundPlant
		s api.RoundState
		n int
	}{
		{three(), eight(), 1}, {two(), filled(6, 0), 2}, {two(), filled(5, 0), 1}, {two(), filled(0, 0), 2}, {full(6), filled(3), 3}, {full(50), filled(0), 50},
		{full(50), filled(50), 50}, {full(1), filled(1), 1}, {full(12, 18, 30), filled(6, 0, 24), 6}, {build(nil, 12, 18, 30), filled(6, 3, 24), 3}, {full(6, 10, 15), filled(0, 0, 0), 1},
		{full(6, 10, 14), stand(numbers(2, 4, 8), numbers(1, 2, 3)), 2},
	} {
		task := wish(x.s, slices.Repeat(numbers(-1), len(x.p.Vessels))...)
		n, e := Divisor(x.p, task)
		want(t, fmt.Sprint(x.p, x.s), n, e, x.n, api.OK)
		task.Content[0] = 1
		n, e = Divisor(x.p, task)
		want(t, "whatever is wanted", n, e, x.n, api.OK)
	}
}

// TestCheckDivisor: P9.5.
func TestCheckDivisor(t *testing.T) {
	p, s := full(12, 18, 30), filled(6, 0, 24)
	for _, x := range []struct {
		what string
		by   int
		t    api.RoundTask
		e    api.Errno
	}{
		{"the divisor", 6, wish(s, -1, 9, -1), api.OK},
		{"a number that divides it", 2, wish(s, -1, 9, -1), api.OK},
		{"one that divides what is wanted", 3, wish(s, -1, 9, -1), api.ErrProof},
		{"one that does not divide the sizes", 4, wish(s, -1, 9, -1), api.ErrProof},
		{"one that does not divide the contents", 12, wish(s, -1, 9, -1), api.ErrProof},
		{"one that divides none", 50, wish(s, -1, 9, -1), api.ErrProof},
		{"anything is wanted", 6, wish(s, -1, -1, -1), api.ErrProof},
		{"nothing is wanted", 6, wish(s, 0, 0, 0), api.ErrProof},
		{"the last vessel", 6, wish(s, 6, 18, 1), api.OK},
		{"there is no way, but not for it", 6, wish(s, 12, 18, 30), api.ErrProof},
	} {
		want(t, x.what, 0, CheckDivisor(p, x.t, x.by), 0, x.e)
	}
	want(t, "the chapter's second example", 0, CheckDivisor(two(), odd(), 2), 0, api.OK)
	want(t, "the greatest one", 0, CheckDivisor(full(50), wish(filled(50), 49), 50), 0, api.OK)
	for _, by := range outside(2, 50) {
		want(t, fmt.Sprint("by ", by), 0, CheckDivisor(two(), odd(), by), 0, api.ErrRange)
	}
	want(t, "by 0", 0, CheckDivisor(two(), odd(), 0), 0, api.ErrRange)
	want(t, "by -2", 0, CheckDivisor(two(), odd(), -2), 0, api.ErrRange)
}
