package plan

import (
	"fmt"
	"math"
	"slices"
	"testing"

	"criadera/api"
)

// want compares a value and an error. A nil list and an empty one are printed alike.
func want[T any](t *testing.T, what string, got T, e api.Errno, value T, f api.Errno) {
	t.Helper()
	if fmt.Sprintf("%+v", got) != fmt.Sprintf("%+v", value) || e != f {
		t.Errorf("%s: %+v, %d, want %+v, %d", what, got, e, value, f)
	}
}

// refused asks for an error, and for nothing beside it.
func refused[T any](t *testing.T, what string, got T, e api.Errno, f api.Errno) {
	t.Helper()
	var none T
	want(t, what, got, e, none, f)
}

// from is a range, just that of one number.
func from(lo, hi int) api.Range { return api.Range{Lo: lo, Hi: hi} }

func just(n int) api.Range { return from(n, n) }

// numbers is a list.
func numbers(l ...int) []int { return l }

func demand(name string, amount int, coefs ...int) api.PlanDemand {
	return api.PlanDemand{Name: name, Coefs: coefs, Amount: amount}
}

// programOf has draws of these greatest numbers and gains.
func programOf(most, gain []int, demands ...api.PlanDemand) api.PlanProgram {
	return api.PlanProgram{Most: most, Gain: gain, Demands: demands}
}

// one is the programme of the chapter's first example, with more demands.
func one(more ...api.PlanDemand) api.PlanProgram {
	return programOf(numbers(100), numbers(2), append([]api.PlanDemand{demand("a", 100, 3)}, more...)...)
}

// none is one without allowed points.
func none() api.PlanProgram { return one(demand("b", -40, -1)) }

// two is the programme of the chapter's second example.
func two(more ...api.PlanDemand) api.PlanProgram {
	return programOf(numbers(10, 10), numbers(3, 2), append([]api.PlanDemand{demand("sum", 12, 1, 1)}, more...)...)
}

// demandsOf is so many demands of a programme of one draw.
func demandsOf(count int) []api.PlanDemand {
	var l []api.PlanDemand
	for n := range count {
		l = append(l, demand(fmt.Sprint("d", n), n, 1))
	}
	return l
}

func point(den int, parts ...int) api.PlanPoint { return api.PlanPoint{Den: den, Parts: parts} }

func weights(den int, demands, top []int) api.PlanWeights {
	return api.PlanWeights{Den: den, Demands: demands, Top: top}
}

// copied is a programme that shares no memory with another one.
func copied(p api.PlanProgram) api.PlanProgram {
	p.Most, p.Gain, p.Demands = slices.Clone(p.Most), slices.Clone(p.Gain), slices.Clone(p.Demands)
	for n := range p.Demands {
		p.Demands[n].Coefs = slices.Clone(p.Demands[n].Coefs)
	}
	return p
}

func scale(volume int, loss api.Range, least int) api.PlanScale {
	return api.PlanScale{Volume: volume, Loss: loss, Least: least}
}

// systemWith takes in wine of an age.
func systemWith(begin int, scales ...api.PlanScale) api.PlanSystem {
	return api.PlanSystem{Scales: scales, New: begin}
}

// pair is the system of the chapter's examples, with such losses.
func pair(loss api.Range) api.PlanSystem {
	return systemWith(0, scale(1000, loss, 20000), scale(1000, loss, 10000))
}

// rising is the system of the chapter's sixth example, and the ages of its scales at first.
func rising() (api.PlanSystem, []api.Range) {
	return systemWith(0, scale(1000, just(0), 10500), scale(1000, just(0), 9000)), []api.Range{just(10000), just(10000)}
}

func scalesOf(count int) []api.PlanScale {
	return slices.Repeat([]api.PlanScale{scale(10, just(0), 0)}, count)
}

// outside is numbers that are not from least to most.
func outside(least, most int) []int {
	return numbers(least-1, most+1, math.MinInt, math.MaxInt)
}

// wrongNames is texts that are no names.
func wrongNames() []string { return []string{"", "9a", "abcdefghijklm", "a b", "ä", "a_"} }

// A wrongRange has an error.
type wrongRange struct {
	r api.Range
	e api.Errno
}

// wrongRanges is ranges with errors, some of them with several, of a greatest number.
func wrongRanges(most int) []wrongRange {
	return []wrongRange{
		{from(-1, 1), api.ErrRange},
		{from(1, -1), api.ErrRange},
		{from(0, most+1), api.ErrRange},
		{from(most+1, most), api.ErrRange},
		{from(math.MinInt, math.MaxInt), api.ErrRange},
		{from(math.MaxInt, math.MinInt), api.ErrRange},
		{from(1, 0), api.ErrOrder},
		{from(most, most-1), api.ErrOrder},
	}
}

// wrongPrograms is programmes with errors.
func wrongPrograms() map[api.Errno]api.PlanProgram {
	return map[api.Errno]api.PlanProgram{
		api.ErrShape:  {},
		api.ErrLarge:  programOf(make([]int, 5), make([]int, 5)),
		api.ErrRange:  programOf(numbers(-1), numbers(0)),
		api.ErrName:   one(demand("", 0, 0)),
		api.ErrExists: one(demand("a", 0, 0)),
	}
}

// A wrongPoint is a point of a programme of one draw, with its error.
type wrongPoint struct {
	x api.PlanPoint
	e api.Errno
}

func wrongPoints() []wrongPoint {
	l := []wrongPoint{
		{point(1), api.ErrShape},
		{point(1, 0, 0), api.ErrShape},
		{point(0), api.ErrShape},
		{point(1, -1, 0), api.ErrShape},
	}
	for _, n := range outside(1, api.MaxPlanWeight) {
		l = append(l, wrongPoint{point(n, 0), api.ErrRange})
	}
	for _, n := range outside(0, api.MaxNumber) {
		l = append(l, wrongPoint{point(1, n), api.ErrRange})
	}
	return l
}

// A wrongWeight is weights of a programme of one draw and one demand, with their error.
type wrongWeight struct {
	w api.PlanWeights
	e api.Errno
}

func wrongWeights() []wrongWeight {
	l := []wrongWeight{
		{weights(1, nil, numbers(2)), api.ErrShape},
		{weights(1, numbers(2, 2), numbers(2)), api.ErrShape},
		{weights(1, numbers(2), nil), api.ErrShape},
		{weights(1, numbers(2), numbers(2, 2)), api.ErrShape},
		{weights(0, nil, nil), api.ErrShape},
		{weights(0, numbers(-1), nil), api.ErrShape},
	}
	for _, n := range outside(1, api.MaxPlanWeight) {
		l = append(l, wrongWeight{weights(n, numbers(2), numbers(2)), api.ErrRange})
	}
	for _, n := range outside(0, api.MaxPlanWeight) {
		l = append(l, wrongWeight{weights(1, numbers(n), numbers(2)), api.ErrRange})
		l = append(l, wrongWeight{weights(1, numbers(2), numbers(n)), api.ErrRange})
	}
	return l
}

// wrongSystems is systems with errors.
func wrongSystems() map[api.Errno]api.PlanSystem {
	return map[api.Errno]api.PlanSystem{
		api.ErrShape: {},
		api.ErrLarge: systemWith(0, scalesOf(5)...),
		api.ErrRange: systemWith(-1, scalesOf(1)...),
		api.ErrOrder: systemWith(0, scale(10, from(1, 0), 0)),
	}
}

// A wrongAge is ages of a system of two scales, with their error.
type wrongAge struct {
	l []api.Range
	e api.Errno
}

func wrongAges() []wrongAge {
	l := []wrongAge{
		{nil, api.ErrShape},
		{[]api.Range{just(0)}, api.ErrShape},
		{[]api.Range{just(-1), just(0), just(0)}, api.ErrShape},
		{[]api.Range{from(1, 0), just(-1)}, api.ErrOrder},
		{[]api.Range{just(-1), from(1, 0)}, api.ErrRange},
	}
	for _, wrong := range wrongRanges(api.MaxPlanAge) {
		l = append(l, wrongAge{[]api.Range{wrong.r, just(0)}, wrong.e}, wrongAge{[]api.Range{just(0), wrong.r}, wrong.e})
	}
	return l
}
