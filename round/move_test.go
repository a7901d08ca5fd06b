package round

import (
	"fmt"
	"slices"
	"testing"

	"criadera/api"
)

// oneWay has no hose from c to b, and none from b to a.
func oneWay() api.RoundPlant { return build(pairs(0, 1, 0, 2, 1, 2, 2, 0), 8, 5, 3) }

// wrongMoves is moves that cannot be done by oneWay whatever the state is, with their errors.
func wrongMoves() map[api.RoundMove]api.Errno {
	l := map[api.RoundMove]api.Errno{
		move(0, 0): api.ErrAllowed, move(1, 1): api.ErrAllowed, move(1, 0): api.ErrAllowed, move(2, 1): api.ErrAllowed,
	}
	for _, n := range outside(0, 2) {
		l[move(n, 0)], l[move(0, n)], l[move(n, n)] = api.ErrMissing, api.ErrMissing, api.ErrMissing
	}
	return l
}

// TestApply: P9.2.
func TestApply(t *testing.T) {
	for _, x := range []struct {
		s   api.RoundState
		m   api.RoundMove
		end api.RoundState
	}{
		{eight(), move(0, 1), filled(3, 5, 0)},
		{eight(), move(0, 2), filled(5, 0, 3)},
		{filled(3, 5, 0), move(1, 2), filled(3, 2, 3)},
		{filled(3, 2, 3), move(2, 0), filled(6, 2, 0)},
		{filled(5, 0, 3), move(2, 0), filled(8, 0, 0)},
		{filled(1, 2, 3), move(0, 1), filled(0, 3, 3)},
		{filled(3, 2, 0), move(0, 1), filled(0, 5, 0)},
		{filled(4, 2, 0), move(0, 1), filled(1, 5, 0)},
		{stand(numbers(3, 2, 1), numbers(2, 1, 2)), move(2, 0), stand(numbers(4, 2, 0), numbers(2, 1, 0))},
		{stand(numbers(0, 2, 2), numbers(0, 3, 1)), move(2, 0), stand(numbers(2, 2, 0), numbers(1, 3, 0))},
		{stand(numbers(8, 0, 2), numbers(2, 0, 1)), move(0, 1), stand(numbers(3, 5, 2), numbers(2, 2, 1))},
	} {
		s, e := Apply(oneWay(), x.s, x.m)
		want(t, fmt.Sprint(x.s, x.m), s, e, x.end, api.OK)
	}
	for _, x := range []struct {
		s api.RoundState
		m api.RoundMove
		e api.Errno
	}{
		{filled(0, 5, 0), move(0, 2), api.ErrNone},
		{filled(0, 5, 0), move(0, 1), api.ErrNone},
		{filled(1, 0, 3), move(0, 2), api.ErrFull},
		{stand(numbers(8, 5, 0), numbers(1, 2, 0)), move(0, 1), api.ErrFull},
		{stand(numbers(3, 2, 0), numbers(1, 2, 0)), move(0, 1), api.ErrClash},
		{stand(numbers(0, 2, 0), numbers(0, 2, 0)), move(0, 1), api.ErrNone},
		{stand(numbers(7, 0, 3), numbers(3, 0, 2)), move(2, 0), api.ErrClash},
	} {
		s, e := Apply(oneWay(), x.s, x.m)
		refused(t, fmt.Sprint(x.s, x.m), s, e, x.e)
	}
	for m, e := range wrongMoves() {
		for _, s := range []api.RoundState{eight(), filled(0, 5, 3), stand(numbers(8, 5, 3), numbers(1, 2, 3))} {
			got, f := Apply(oneWay(), s, m)
			refused(t, fmt.Sprint(s, m), got, f, e)
		}
	}
}

// TestMoves: P9.2.
func TestMoves(t *testing.T) {
	for _, x := range []struct {
		p api.RoundPlant
		s api.RoundState
		l []api.RoundMove
	}{
		{three(), eight(), moves(0, 1, 0, 2)},
		{three(), filled(3, 2, 2), moves(0, 1, 0, 2, 1, 0, 1, 2, 2, 0, 2, 1)},
		{three(), filled(8, 5, 3), nil},
		{three(), filled(0, 0, 0), nil},
		{full(5, 5), stand(numbers(3, 2), numbers(1, 2)), nil},
		{three(), stand(numbers(3, 2, 0), numbers(1, 2, 0)), moves(0, 2, 1, 2)},
		{build(pairs(2, 1, 1, 0, 2, 0, 0, 2, 1, 2), 8, 5, 3), filled(1, 1, 1), moves(0, 2, 1, 0, 1, 2, 2, 0, 2, 1)},
		{build(nil, 8, 5, 3), eight(), nil},
		{full(7), filled(3), nil},
	} {
		l, e := Moves(x.p, x.s)
		want(t, fmt.Sprint(x.p, x.s), l, e, x.l, api.OK)
	}
}

// TestRun: P9.2.
func TestRun(t *testing.T) {
	s, n, e := Run(three(), eight(), way())
	want(t, "the chapter's way", s, e, filled(4, 4, 0), api.OK)
	want(t, "no number", n, 0, 0, 0)
	s, n, e = Run(three(), filled(1, 2, 3), nil)
	want(t, "no moves", s, e, filled(1, 2, 3), api.OK)
	want(t, "no number", n, 0, 0, 0)
	back := slices.Repeat(moves(0, 1, 1, 0), 250)
	s, n, e = Run(three(), eight(), back)
	want(t, "as many moves as may be", s, e, eight(), api.OK)
	want(t, "no number", n, 0, 0, 0)
	for m, e := range wrongMoves() {
		s, n, f := Run(oneWay(), eight(), append(moves(0, 1, 1, 2), m, move(-1, -1)))
		refused(t, fmt.Sprint("behind two moves ", m), s, f, e)
		want(t, "its number", n, 0, 2, 0)
	}
	mixed := func(b int) api.RoundState { return stand(numbers(2, b, 3), numbers(1, 2, 1)) }
	for _, x := range []struct {
		s api.RoundState
		l []api.RoundMove
		n int
		e api.Errno
	}{
		{eight(), slices.Concat(back, moves(0, 1)), 0, api.ErrLarge},
		{eight(), make([]api.RoundMove, 501), 0, api.ErrLarge},
		{eight(), moves(1, 0), 0, api.ErrNone},
		{eight(), moves(0, 1, 0, 1), 1, api.ErrFull},
		{eight(), slices.Concat(back[:499], moves(0, 1)), 499, api.ErrFull},
		{filled(7, 0, 0), moves(0, 1, 0, 2, 0, 1), 2, api.ErrNone},
		{mixed(5), moves(2, 0, 1, 2, 0, 2), 2, api.ErrFull},
		{mixed(2), moves(2, 0, 1, 2, 0, 2), 2, api.ErrClash},
	} {
		s, n, e := Run(three(), x.s, x.l)
		refused(t, fmt.Sprint(x.s, len(x.l), " moves"), s, e, x.e)
		want(t, "its number", n, 0, x.n, 0)
	}
}
