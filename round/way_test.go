package round

import (
	"fmt"
	"slices"
	"testing"

	"criadera/api"
)

// layersOfEight is the layers of the chapter's first example.
func layersOfEight() [][]api.RoundState {
	return [][]api.RoundState{
		states(8, 0, 0),
		states(3, 5, 0, 5, 0, 3),
		states(0, 5, 3, 3, 2, 3, 5, 3, 0),
		states(2, 3, 3, 6, 2, 0),
		states(2, 5, 1, 6, 0, 2),
		states(1, 5, 2, 7, 0, 1),
		states(1, 4, 3, 7, 1, 0),
		states(4, 1, 3, 4, 4, 0),
	}
}

// TestLayers: P9.4.
func TestLayers(t *testing.T) {
	mixed := stand(numbers(3, 2), numbers(1, 2))
	swap := func(a, b, c, x, y, z int) api.RoundState { return stand(numbers(a, b, c), numbers(x, y, z)) }
	for _, x := range []struct {
		what   string
		p      api.RoundPlant
		s      api.RoundState
		layers [][]api.RoundState
	}{
		{"the chapter's first example", three(), eight(), layersOfEight()},
		{"its seventh example", two(), filled(6, 0), [][]api.RoundState{{filled(6, 0)}, {filled(2, 4)}}},
		{"no moves", full(5, 5), mixed, [][]api.RoundState{{mixed}}},
		{"no hoses", build(nil, 8, 5, 3), eight(), [][]api.RoundState{states(8, 0, 0)}},
		{"nothing to pour", three(), filled(0, 0, 0), [][]api.RoundState{states(0, 0, 0)}},
		{"one way", build(pairs(0, 1, 1, 2), 3, 2, 2), filled(3, 0, 0), [][]api.RoundState{states(3, 0, 0), states(1, 2, 0), states(0, 2, 0, 1, 0, 2)[1:], states(0, 1, 2)}},
		{"by the wines, where the contents are the same", full(1, 1, 1), swap(1, 1, 0, 1, 2, 0), [][]api.RoundState{
			{swap(1, 1, 0, 1, 2, 0)},
			{swap(0, 1, 1, 0, 2, 1), swap(1, 0, 1, 1, 0, 2)},
			{swap(0, 1, 1, 0, 1, 2), swap(1, 0, 1, 2, 0, 1)},
			{swap(1, 1, 0, 2, 1, 0)},
		}},
	} {
		layers, e := Layers(x.p, x.s)
		want(t, x.what, layers, e, x.layers, api.OK)
	}
	p, s := just()
	layers, e := Layers(p, s)
	want(t, "as many states as may be", len(slices.Concat(layers...)), e, 4000, api.OK)
	p, s = over()
	layers, e = Layers(p, s)
	refused(t, "one more", layers, e, api.ErrLarge)
}

// TestDistance: P9.4.
func TestDistance(t *testing.T) {
	second := api.RoundTask{Start: stand(numbers(1, 1, 0), numbers(1, 2, 0)), Content: numbers(-1, -1, -1), Wine: numbers(2, 1, 0)}
	for _, x := range []struct {
		what string
		p    api.RoundPlant
		t    api.RoundTask
		n    int
		e    api.Errno
	}{
		{"the chapter's first example", three(), half(), 7, api.OK},
		{"the other one of the last layer", three(), wish(eight(), -1, 1, 3), 7, api.OK},
		{"what is met nearer", three(), wish(eight(), -1, -1, 3), 1, api.OK},
		{"what is so", three(), wish(eight(), -1, 0, -1), 0, api.OK},
		{"anything", three(), wish(eight(), -1, -1, -1), 0, api.OK},
		{"what is not there", three(), wish(eight(), 4, 4, 1), 0, api.ErrNone},
		{"the chapter's second example", two(), odd(), 0, api.ErrNone},
		{"without hoses", build(nil, 8, 5, 3), half(), 0, api.ErrNone},
		{"two wines that change places", full(1, 1, 1), second, 3, api.OK},
		{"two wines that cannot", full(1, 1), api.RoundTask{Start: stand(numbers(1, 1), numbers(1, 2)), Content: numbers(-1, -1), Wine: numbers(2, 1)}, 0, api.ErrNone},
		{"a wine that is not there", three(), api.RoundTask{Start: eight(), Content: numbers(-1, -1, -1), Wine: numbers(0, 2, 0)}, 0, api.ErrNone},
	} {
		n, e := Distance(x.p, x.t)
		want(t, x.what, n, e, x.n, x.e)
		l, e := Fewest(x.p, x.t)
		want(t, x.what, len(l), e, x.n, x.e)
		if e == api.OK {
			n, e := CheckMoves(x.p, x.t, l)
			want(t, x.what, n, e, x.n, api.OK)
		}
	}
	p, s := just()
	n, e := Distance(p, wish(s, -1, -1, -1, -1, -1))
	want(t, "as many states as may be", n, e, 0, api.OK)
	n, e = Distance(p, wish(s, 13, 16, 6, 11, 7))
	refused(t, "as many states as may be", n, e, api.ErrNone)
	p, s = over()
	for _, content := range numbers(-1, 0, 14) {
		task := wish(s, content, -1, -1, -1, -1)
		n, e := Distance(p, task)
		refused(t, "one state more, whether it is met or not", n, e, api.ErrLarge)
		l, e := Fewest(p, task)
		refused(t, "one state more, whether it is met or not", l, e, api.ErrLarge)
	}
}

// TestFewest: P9.4: the only fewest moves of some tasks.
func TestFewest(t *testing.T) {
	for _, x := range []struct {
		what string
		p    api.RoundPlant
		t    api.RoundTask
		l    []api.RoundMove
	}{
		{"the chapter's first example", three(), half(), way()},
		{"what is so", three(), wish(eight(), 8, -1, -1), nil},
		{"one move", three(), wish(eight(), -1, 0, 3), moves(0, 2)},
		{"along a line", build(pairs(3, 4, 2, 3, 1, 2, 0, 1), 1, 1, 1, 1, 1), wish(filled(1, 0, 0, 0, 0), 0, 0, 0, 0, 1), moves(0, 1, 1, 2, 2, 3, 3, 4)},
	} {
		l, e := Fewest(x.p, x.t)
		want(t, x.what, l, e, x.l, api.OK)
	}
}

// TestCheckMoves: P9.4.
func TestCheckMoves(t *testing.T) {
	back := slices.Repeat(moves(0, 1, 1, 0), 250)
	for _, x := range []struct {
		what string
		t    api.RoundTask
		l    []api.RoundMove
		n    int
		e    api.Errno
	}{
		{"the chapter's way", half(), way(), 7, api.OK},
		{"a longer one", half(), slices.Concat(moves(0, 2, 2, 0), way()), 9, api.OK},
		{"no moves", wish(eight(), 8, 0, 0), nil, 0, api.OK},
		{"moves that do nothing", wish(eight(), 8, 0, 0), moves(0, 1, 1, 0), 2, api.OK},
		{"as many as may be", wish(eight(), 8, 0, 0), back, 500, api.OK},
		{"too many", wish(eight(), 8, 0, 0), slices.Concat(back, moves(0, 9)), 0, api.ErrLarge},
		{"no moves for what is not so", half(), nil, 0, api.ErrProof},
		{"moves that end elsewhere", half(), way()[:6], 0, api.ErrProof},
		{"moves that pass by", half(), slices.Concat(way(), moves(0, 1)), 0, api.ErrProof},
		{"the first wrong move", half(), slices.Concat(way()[:2], moves(1, 2, 9, 9)), 0, api.ErrFull},
		{"a move from none", half(), moves(0, 1, 3, 0), 0, api.ErrMissing},
		{"a move to none", half(), moves(0, 1, 0, -1), 0, api.ErrMissing},
		{"a move to itself", half(), moves(0, 1, 0, 0), 0, api.ErrAllowed},
		{"a move of nothing", half(), slices.Concat(way(), moves(2, 1)), 0, api.ErrNone},
	} {
		n, e := CheckMoves(three(), x.t, x.l)
		want(t, x.what, n, e, x.n, x.e)
	}
	n, e := CheckMoves(full(5, 5), wish(stand(numbers(3, 2), numbers(1, 2)), 5, 0), moves(1, 0))
	refused(t, "two wines", n, e, api.ErrClash)
}

// TestAmounts: P9.4.
func TestAmounts(t *testing.T) {
	for vessel, amounts := range [][]int{numbers(0, 1, 2, 3, 4, 5, 6, 7, 8), numbers(0, 1, 2, 3, 4, 5), numbers(0, 1, 2, 3)} {
		l, e := Amounts(three(), eight(), vessel)
		want(t, fmt.Sprint("in ", vessel), l, e, amounts, api.OK)
	}
	for vessel, amounts := range [][]int{numbers(2, 6), numbers(0, 4)} {
		l, e := Amounts(two(), filled(6, 0), vessel)
		want(t, fmt.Sprint("in ", vessel), l, e, amounts, api.OK)
	}
	l, e := Amounts(build(pairs(0, 1), 8, 5, 3), filled(8, 0, 2), 2)
	want(t, "a vessel without hoses", l, e, numbers(2), api.OK)
	for _, n := range outside(0, 2) {
		l, e := Amounts(three(), eight(), n)
		refused(t, fmt.Sprint("in ", n), l, e, api.ErrMissing)
	}
	p, s := over()
	for vessel, f := range map[int]api.Errno{0: api.ErrLarge, 4: api.ErrLarge, 5: api.ErrMissing} {
		l, e := Amounts(p, s, vessel)
		refused(t, "too many states", l, e, f)
	}
}
