package gauge

import (
	"fmt"
	"math"
	"slices"
	"testing"

	"criadera/api"
)

// TestContradicts: P4.5.
func TestContradicts(t *testing.T) {
	losing := func(lo, hi int, readings ...api.GaugeReading) api.GaugeBook {
		return api.GaugeBook{Loss: from(lo, hi), Readings: readings}
	}
	for _, x := range []struct {
		what string
		b    api.GaugeBook
		is   bool
	}{
		{"the chapter's example", rightBook(), false},
		{"the chapter's contradiction", clashingBook(), true},
		{"the least loss", losing(1000, 2000, gauged("a", 0, 50, 60), gauged("a", 10, 50, 55)), false},
		{"less than the least loss", losing(1000, 2000, gauged("a", 0, 50, 60), gauged("a", 10, 51, 55)), true},
		{"the greatest loss", losing(1000, 2000, gauged("a", 0, 50, 60), gauged("a", 10, 20, 30)), false},
		{"more than the greatest loss", losing(1000, 2000, gauged("a", 0, 50, 60), gauged("a", 10, 20, 29)), true},
		{"a thousandth too little", losing(1001, 2000, gauged("a", 0, 60, 60), gauged("a", 1, 59, 59)), true},
		{"a thousandth too much", losing(0, 999, gauged("a", 0, 60, 60), gauged("a", 1, 59, 59)), true},
		{"a part of a decilitre", losing(0, 1, gauged("a", 0, 60, 60), gauged("a", 999, 59, 59)), true},
		{"a whole decilitre", losing(0, 1, gauged("a", 0, 60, 60), gauged("a", 1000, 59, 59)), false},
		{"one day, an end in common", losing(0, api.MaxGaugeLoss, gauged("a", 5, 50, 60), gauged("a", 5, 60, 70)), false},
		{"one day, nothing in common", losing(0, api.MaxGaugeLoss, gauged("a", 5, 50, 60), gauged("a", 5, 61, 70)), true},
		{"one day, less", losing(0, api.MaxGaugeLoss, gauged("a", 5, 50, 60), gauged("a", 5, 40, 49)), true},
	} {
		is, e := Contradicts(x.b, [2]int{0, 1})
		want(t, x.what, is, e, x.is, api.OK)
	}
}

// TestPairs: P4.5: what is asked of two gaugings.
func TestPairs(t *testing.T) {
	b := bookWith(gauged("a", 5, 9, 9), gauged("b", 5, 9, 9), gauged("a", 5, 9, 9), gauged("b", 7, 9, 9))
	for _, x := range []struct {
		pair [2]int
		e    api.Errno
	}{
		{[2]int{0, 2}, api.OK},
		{[2]int{1, 3}, api.OK},
		{[2]int{-1, 0}, api.ErrMissing},
		{[2]int{0, -1}, api.ErrMissing},
		{[2]int{4, 0}, api.ErrMissing},
		{[2]int{0, 4}, api.ErrMissing},
		{[2]int{math.MaxInt, math.MinInt}, api.ErrMissing},
		{[2]int{0, 1}, api.ErrClash},
		{[2]int{3, 0}, api.ErrClash},
		{[2]int{2, 0}, api.ErrOrder},
		{[2]int{3, 1}, api.ErrOrder},
		{[2]int{0, 0}, api.ErrOrder},
	} {
		is, e := Contradicts(b, x.pair)
		want(t, fmt.Sprint("Contradicts ", x.pair), is, e, false, x.e)
		r, e := Gone(b, x.pair)
		want(t, fmt.Sprint("Gone ", x.pair), r, e, api.Range{}, x.e)
	}
}

// TestGone: P4.5.
func TestGone(t *testing.T) {
	finer := api.GaugeBook{Loss: from(1, 1999), Readings: []api.GaugeReading{gauged("a", 0, 50, 60), gauged("a", 1, 40, 45)}, Moves: []api.GaugeMove{moved(1, "", "a", 7)}}
	for _, x := range []struct {
		what string
		b    api.GaugeBook
		pair [2]int
		out  api.Range
	}{
		{"the chapter's contradiction", clashingBook(), [2]int{0, 1}, from(5, 15)},
		{"its other one", clashingBook(), [2]int{0, 2}, from(1, 23)},
		{"what does not contradict", clashingBook(), [2]int{1, 2}, from(-4, 8)},
		{"the chapter's example", rightBook(), [2]int{0, 1}, from(-5, 5)},
		{"parts of a decilitre", finer, [2]int{0, 1}, from(55-45, 67-40)},
		{"what has come", noted(500, 520), [2]int{0, 1}, from(-20, -20)},
	} {
		r, e := Gone(x.b, x.pair)
		want(t, x.what, r, e, x.out, api.OK)
	}
}

// TestContradictions: P4.5.
func TestContradictions(t *testing.T) {
	apart := bookWith(gauged("a", 0, 9, 9), gauged("b", 0, 1, 1), gauged("b", 0, 2, 2), gauged("a", 0, 8, 8), gauged("a", 0, 8, 9))
	for _, x := range []struct {
		what  string
		b     api.GaugeBook
		pairs [][2]int
	}{
		{"nothing", api.GaugeBook{}, nil},
		{"the chapter's example", rightBook(), nil},
		{"the chapter's contradictions", clashingBook(), [][2]int{{0, 1}, {0, 2}}},
		{"two casks", apart, [][2]int{{0, 3}, {1, 2}}},
		{"all of them", noted(1, 2, 3), [][2]int{{0, 1}, {0, 2}, {1, 2}}},
	} {
		pairs, e := Contradictions(x.b)
		want(t, x.what, pairs, e, x.pairs, api.OK)
	}
}

// TestWithout: P4.5.
func TestWithout(t *testing.T) {
	all := clashingBook().Readings
	for _, x := range []struct {
		l    []int
		left []api.GaugeReading
	}{
		{nil, all},
		{[]int{0}, all[1:]},
		{[]int{1}, []api.GaugeReading{all[0], all[2]}},
		{[]int{0, 2}, all[1:2]},
		{[]int{0, 1, 2}, nil},
	} {
		b, e := Without(clashingBook(), x.l)
		want(t, fmt.Sprint("without ", x.l), b, e, api.GaugeBook{Loss: from(1000, 2000), Readings: x.left, Moves: rightBook().Moves}, api.OK)
	}
	for _, x := range wrongLists() {
		b, e := Without(clashingBook(), x.l)
		refused(t, fmt.Sprint("without ", x.l), b, e, x.e)
		refused(t, fmt.Sprint("blamed ", x.l), 0, CheckBlamed(clashingBook(), x.l), x.e)
	}
}

type wrongList struct {
	l []int
	e api.Errno
}

// wrongLists is lists of gaugings of a book of three, with errors.
func wrongLists() []wrongList {
	return []wrongList{
		{[]int{-1}, api.ErrMissing},
		{[]int{3}, api.ErrMissing},
		{[]int{math.MinInt}, api.ErrMissing},
		{[]int{0, 1, 2, 3}, api.ErrMissing},
		{[]int{1, -1}, api.ErrMissing},
		{[]int{0, 0}, api.ErrOrder},
		{[]int{1, 0, 3}, api.ErrOrder},
		{[]int{3, 1, 0}, api.ErrMissing},
		{[]int{0, 2, 1}, api.ErrOrder},
	}
}

// TestCheckBlamed: P4.5.
func TestCheckBlamed(t *testing.T) {
	for _, x := range []struct {
		b api.GaugeBook
		l []int
		e api.Errno
	}{
		{rightBook(), nil, api.OK},
		{rightBook(), []int{0, 1}, api.OK},
		{clashingBook(), nil, api.ErrProof},
		{clashingBook(), []int{0}, api.OK},
		{clashingBook(), []int{1}, api.ErrProof},
		{clashingBook(), []int{2}, api.ErrProof},
		{clashingBook(), []int{1, 2}, api.OK},
		{clashingBook(), []int{0, 1, 2}, api.OK},
		{twoCasks(true), []int{0}, api.ErrProof},
		{twoCasks(true), []int{4}, api.OK},
	} {
		want(t, fmt.Sprint(x.l), 0, CheckBlamed(x.b, x.l), 0, x.e)
	}
}

// TestBlamed: P4.5.
func TestBlamed(t *testing.T) {
	pairsOf := func(count int) api.GaugeBook {
		b := noted()
		for n := range 2 * count {
			b.Readings = append(b.Readings, gauged(fmt.Sprint("c", n/2), 0, n, n))
		}
		return b
	}
	many := func(count int) api.GaugeBook {
		b := noted(slices.Repeat([]int{5}, count-1)...)
		b.Readings = append(b.Readings, gauged("butt", count, 6, 6))
		return b
	}
	seventh := pairsOf(7)
	seventh.Readings = append(seventh.Readings, gauged("other", 0, 0, 0), gauged("other", 1, 0, 0))
	for _, x := range []struct {
		what string
		b    api.GaugeBook
		l    []int
		e    api.Errno
	}{
		{"nothing", api.GaugeBook{}, nil, api.OK},
		{"the chapter's example", rightBook(), nil, api.OK},
		{"the chapter's contradictions", clashingBook(), []int{0}, api.OK},
		{"the first one of two", noted(5, 6), []int{0}, api.OK},
		{"the last one of three", noted(5, 5, 6), []int{2}, api.OK},
		{"the one in the middle", noted(5, 6, 5), []int{1}, api.OK},
		{"the first two of two and two", noted(5, 5, 6, 6), []int{0, 1}, api.OK},
		{"the first two of two and two, by turns", noted(6, 5, 6, 5), []int{0, 2}, api.OK},
		{"the first ones, however they lie", noted(6, 5, 5, 6), []int{0, 3}, api.OK},
		{"all but the last one", noted(1, 2, 3, 4), []int{0, 1, 2}, api.OK},
		{"another cask", twoCasks(true), []int{3}, api.OK},
		{"fourteen in contradictions", pairsOf(7), []int{0, 2, 4, 6, 8, 10, 12}, api.OK},
		{"fourteen in contradictions of more", seventh, []int{0, 2, 4, 6, 8, 10, 12}, api.OK},
		{"fourteen of one cask", many(14), []int{13}, api.OK},
		{"sixteen in contradictions", pairsOf(8), nil, api.ErrLarge},
		{"fifteen of one cask", many(15), nil, api.ErrLarge},
	} {
		l, e := Blamed(x.b)
		want(t, x.what, l, e, x.l, x.e)
	}
}
