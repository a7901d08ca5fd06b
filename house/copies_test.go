package house

import (
	"fmt"
	"slices"
	"testing"

	"criadera/api"
)

func branches(common, first, second []api.HouseEntry) api.HouseBranches {
	return api.HouseBranches{Common: common, First: first, Second: second}
}

// TestCopies: P10.3: what two copies have behind the example, the error of Merged, and whether they are exchangeable.
func TestCopies(t *testing.T) {
	common := example("ann cask b 100", "cy part a 10 12 5 6", "tom sheet a 1")
	for _, x := range []struct {
		first, second  []string
		merged         api.Errno
		isExchangeable bool
	}{
		{nil, nil, api.OK, true},
		{words("ann draw a 50"), nil, api.OK, true},
		{nil, words("ann draw a 50", "ivy duty 9"), api.OK, true},
		{words("ann draw a 50"), words("ann lose a 30"), api.OK, true},
		{words("ann draw a 50"), words("ann draw a 50"), api.OK, true},
		{words("ann draw a 50"), words("ann draw a 30"), api.OK, false},
		{words("ann move a b 60"), words("ann move a b 60"), api.ErrFull, false},
		{words("ann draw a 300"), words("ann lose a 300"), api.ErrNone, false},
		{words("ann draw a 50"), words("ivy duty 9"), api.OK, false},
		{words("ivy duty 9"), words("ann draw a 50"), api.OK, false},
		{words("ivy duty 9"), words("ivy duty 9"), api.OK, true},
		{words("ivy duty 9"), words("ivy duty 8"), api.OK, false},
		{words("ivy duty 9"), words("ann day 1100"), api.OK, true},
		{words("ann day 1100"), words("ann day 1100"), api.OK, true},
		{words("ann day 1100"), words("ann day 1101"), api.OK, false},
		{words("ann day 1101"), words("ann day 1100"), api.ErrOrder, false},
		{words("ann day 1100"), words("ann draw a 1"), api.OK, false},
		{words("ann day 1100"), words("ann lose a 1"), api.OK, false},
		{words("ann day 1100"), words("ann gauge a 1095 1 1"), api.ErrClash, false},
		{words("ann gauge a 1095 1 1"), words("ann day 1100"), api.OK, false},
		{words("ann gauge a 1095 1 1"), words("ann gauge a 1095 1 1"), api.OK, true},
		{words("ann gauge a 1095 1 1"), words("ann gauge a 1095 1 2"), api.OK, false},
		{words("ann gauge a 1095 1 1"), words("ann draw a 1"), api.OK, true},
		{words("ann cask c 5"), words("ann cask d 5"), api.OK, false},
		{words("ann cask c 5"), words("ann cask c 5"), api.ErrExists, false},
		{words("ann move a b 5"), words("ann lose a 5"), api.OK, true},
		{words("ann move a b 50"), words("ann fill a 7 50"), api.OK, false},
		{words("ann lose a 5"), words("ann lose a 6"), api.OK, false},
		{words("ann lose a 5"), words("ann lose a 5"), api.OK, true},
		{words("ivy seal a"), words("ivy seal b"), api.OK, false},
		{words("ivy seal a"), words("ivy seal a"), api.ErrDouble, false},
		{words("ivy seal a"), words("ann draw a 1"), api.ErrBusy, false},
		{words("ann draw a 1"), words("ivy seal a"), api.OK, false},
		{words("ivy seal b"), words("ann draw a 1"), api.OK, true},
		{words("ivy seal a", "ivy open a"), words("ivy seal b"), api.OK, true},
		{words("tom sheet a 0"), words("tom sheet a 1"), api.OK, false},
		{words("tom sheet a 0"), words("tom sheet a 0"), api.OK, true},
		{words("tom sheet a 0"), words("tom sheet b 1"), api.OK, true},
		{words("tom sheet b 0"), words("tom sheet b 1"), api.OK, false},
		{words("tom sheet b -"), words("tom sheet b 1"), api.OK, true},
		{words("cy loss a 0 1 2 3"), words("cy loss a 0 1 2 3"), api.OK, true},
		{words("cy loss a 0 1 2 3"), words("cy loss a 0 1 2 4"), api.OK, false},
		{words("cy loss a 0 1 2 3"), words("ann lose a 2"), api.OK, true},
		{words("cy pay 100"), words("cy pay 50"), api.OK, true},
		{words("cy pay 100"), words("cy pay 51"), api.ErrLarge, false},
		{words("cy part b 1 2 3 4"), words("cy part c 1 2 3 4"), api.OK, false},
		{words("cy part b 1 2 3 4"), words("cy entry e 0 0"), api.ErrShape, false},
		{words("cy entry e 0 0"), words("cy entry f 0 0"), api.OK, false},
		{words("cy entry e 0 0"), words("cy certify c mean 10 1 10"), api.ErrShape, false},
		{words("cy certify c mean 10 1 10"), words("cy entry e 0 0"), api.ErrState, false},
		{words("cy certify c mean 10 1 10"), words("cy certify d mean 10 1 10"), api.OK, false},
		{words("cy certify c mean 10 1 10"), words("ivy seal a", "cy loss a 0 0 0 0", "ann cask c 1"), api.OK, true},
	} {
		what := fmt.Sprint(x.first, " and ", x.second)
		b := branches(common, entries(x.first...), entries(x.second...))
		l, e := Merged(home(), b)
		if x.merged == api.OK {
			want(t, what, l, e, slices.Concat(b.Common, b.First, b.Second), api.OK)
		} else {
			refused(t, what, l, e, x.merged)
		}
		is, e := Exchangeable(home(), b)
		want(t, what, is, e, x.isExchangeable, api.OK)
		is, e = Exchangeable(home(), branches(b.Common, b.Second, b.First))
		want(t, "turned: "+what, is, e, x.isExchangeable, api.OK)
	}
}

// TestWrongCopies: P10.3: the errors of Common and First come ahead of those of Common and Second.
func TestWrongCopies(t *testing.T) {
	common := example()
	for _, x := range []struct {
		common, first, second []api.HouseEntry
		e                     api.Errno
	}{
		{common, entries("ann draw a 451"), entries("ann day 1"), api.ErrNone},
		{common, entries("ann draw a 450"), entries("ann day 1"), api.ErrOrder},
		{common, entries("ann draw a 450"), entries("ann cask b 1", "ann draw a 451"), api.ErrNone},
		{entries("zoe day 1"), entries("ann draw a 1"), entries("ann day 1"), api.ErrMissing},
		{nil, entries("ann day 5"), entries("ann cask a 0"), api.ErrRange},
		{times(30, "ann day 0"), times(31, "ann day 0"), entries("ann walk"), api.ErrLarge},
		{times(30, "ann day 0"), times(30, "ann day 0"), times(31, "ann walk"), api.ErrLarge},
		{times(30, "ann day 0"), times(30, "ann day 0"), entries("ann walk"), api.ErrSyntax},
	} {
		b := branches(x.common, x.first, x.second)
		l, e := Merged(home(), b)
		refused(t, "Merged", l, e, x.e)
		is, e := Exchangeable(home(), b)
		refused(t, "Exchangeable", is, e, x.e)
	}
}

// TestLongCopies: P10.3: all three together must not be too many.
func TestLongCopies(t *testing.T) {
	b := branches(times(20, "ann day 0"), times(20, "ann day 0"), times(20, "ann day 0"))
	l, e := Merged(home(), b)
	want(t, "as many as there may be", l, e, times(60, "ann day 0"), api.OK)
	is, e := Exchangeable(home(), b)
	want(t, "as many as there may be", is, e, true, api.OK)
	b.Second = times(21, "ann day 0")
	l, e = Merged(home(), b)
	refused(t, "one more", l, e, api.ErrLarge)
	is, e = Exchangeable(home(), b)
	want(t, "one more", is, e, false, api.OK)
}
