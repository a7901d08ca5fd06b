package round

import (
	"fmt"
	"math"
	"reflect"
	"slices"
	"testing"

	"criadera/api"
)

// want compares a value and an error. A nil list and an empty one are printed alike.
func want[T any](t *testing.T, what string, got T, e api.Errno, value T, f api.Errno) {
	t.Helper()
	if fmt.Sprintf("%+v", got) != fmt.Sprintf("%+v", value) || e != f {
		t.Errorf("%s: %+v, %d, want %+v, %d", what, got, e, value, f)
	}
}

// refused asks for an error, and for nothing beside it.
func refused[T any](t *testing.T, what string, got T, e api.Errno, f api.Errno) {
	t.Helper()
	var none T
	want(t, what, got, e, none, f)
}

// numbers is a list.
func numbers(l ...int) []int { return l }

// pairs is numbers, two by two.
func pairs(l ...int) [][2]int {
	var out [][2]int
	for pair := range slices.Chunk(l, 2) {
		out = append(out, [2]int(pair))
	}
	return out
}

// every is all hoses of so many vessels.
func every(vessels int) [][2]int {
	var l [][2]int
	for from := range vessels {
		for to := range vessels {
			if from != to {
				l = append(l, [2]int{from, to})
			}
		}
	}
	return l
}

// build is a plant with the vessels a, b and so on.
func build(hoses [][2]int, sizes ...int) api.RoundPlant {
	p := api.RoundPlant{Hoses: hoses}
	for n, size := range sizes {
		p.Vessels = append(p.Vessels, api.RoundVessel{Name: string(rune('a' + n)), Size: size})
	}
	return p
}

// full is a plant with all hoses.
func full(sizes ...int) api.RoundPlant { return build(every(len(sizes)), sizes...) }

func stand(content, wine []int) api.RoundState {
	return api.RoundState{Content: content, Wine: wine}
}

// filled is a state of the wine 1.
func filled(l ...int) api.RoundState {
	s := stand(l, nil)
	for _, n := range l {
		s.Wine = append(s.Wine, min(n, 1))
	}
	return s
}

// states is states of three vessels and of the wine 1.
func states(l ...int) []api.RoundState {
	var out []api.RoundState
	for s := range slices.Chunk(l, 3) {
		out = append(out, filled(s...))
	}
	return out
}

func move(from, to int) api.RoundMove { return api.RoundMove{From: from, To: to} }

// moves is moves, each one told by two vessels.
func moves(l ...int) []api.RoundMove {
	var out []api.RoundMove
	for _, x := range pairs(l...) {
		out = append(out, move(x[0], x[1]))
	}
	return out
}

func act(from, to, amount int) api.RoundAct {
	return api.RoundAct{From: from, To: to, Amount: amount}
}

// wish is a task with contents, of any wine.
func wish(s api.RoundState, l ...int) api.RoundTask {
	return api.RoundTask{Start: s, Content: l, Wine: make([]int, len(l))}
}

// three is the plant of the chapter's examples, eight its state at first, half its task, and way fewest moves for it.
func three() api.RoundPlant { return full(8, 5, 3) }

func eight() api.RoundState { return filled(8, 0, 0) }

func half() api.RoundTask { return wish(eight(), 4, 4, 0) }

func way() []api.RoundMove { return moves(0, 1, 1, 2, 2, 0, 1, 2, 0, 1, 1, 2, 2, 0) }

// two is the plant of the second example, and odd its task.
func two() api.RoundPlant { return full(6, 4) }

func odd() api.RoundTask { return wish(filled(6, 0), api.RoundAny, 3) }

// five is a plant with five vessels, and all hoses; most one with as many vessels and hoses as there may be.
func five() api.RoundPlant { return full(1, 2, 3, 4, 5) }

func most() api.RoundPlant { return full(1, 2, 3, 4, 5, 6) }

// just is a plant, and a state from which 4000 states can be reached, over one with 4001.
func just() (api.RoundPlant, api.RoundState) {
	return build(pairs(0, 3, 1, 0, 1, 2, 1, 3, 1, 4, 2, 1, 3, 4, 4, 0, 4, 2, 4, 3), 13, 16, 6, 11, 7), filled(3, 15, 0, 3, 0)
}

func over() (api.RoundPlant, api.RoundState) { return full(15, 8, 20, 8, 4), filled(8, 7, 9, 3, 0) }

// changed is three with a change.
func changed(change func(p *api.RoundPlant)) api.RoundPlant {
	p := three()
	change(&p)
	return p
}

// copied is a state that shares no memory with another one.
func copied(s api.RoundState) api.RoundState {
	return stand(slices.Clone(s.Content), slices.Clone(s.Wine))
}

// outside is numbers that are not from least to most.
func outside(least, most int) []int {
	return numbers(least-1, most+1, math.MinInt, math.MaxInt)
}

// wrongNames is texts that are no names.
func wrongNames() []string {
	return []string{"", "9a", "-a", "abcdefghijklm", "a b", "ä", "a_", "a;b"}
}

// A wrongPlant has an error, and the number of a vessel or of a hose.
type wrongPlant struct {
	what string
	p    api.RoundPlant
	n    int
	e    api.Errno
}

// wrongPlants is plants with errors, some of them with several.
func wrongPlants() []wrongPlant {
	l := []wrongPlant{
		{"nothing", api.RoundPlant{}, 0, api.ErrShape},
		{"no vessels", api.RoundPlant{Hoses: make([][2]int, 31)}, 0, api.ErrShape},
		{"too many vessels", full(1, 2, 3, 4, 5, 6, 7), 0, api.ErrLarge},
		{"too many vessels, and wrong ones", api.RoundPlant{Vessels: make([]api.RoundVessel, 7)}, 0, api.ErrLarge},
		{"a name twice", changed(func(p *api.RoundPlant) { p.Vessels[2] = api.RoundVessel{Name: "a"} }), 2, api.ErrExists},
		{"a wrong name twice", changed(func(p *api.RoundPlant) { p.Vessels[1].Name, p.Vessels[2].Name = "", "" }), 1, api.ErrName},
		{"the first wrong vessel", changed(func(p *api.RoundPlant) { p.Vessels[1].Size, p.Vessels[2].Name = 0, "" }), 1, api.ErrRange},
		{"too many hoses", changed(func(p *api.RoundPlant) { p.Hoses = slices.Repeat(p.Hoses[:1], 31) }), 0, api.ErrLarge},
		{"too many hoses, and wrong ones", changed(func(p *api.RoundPlant) { p.Hoses = slices.Repeat(pairs(9, 9), 31) }), 0, api.ErrLarge},
		{"a wrong vessel, and too many hoses", changed(func(p *api.RoundPlant) { p.Vessels[2].Size, p.Hoses = 51, make([][2]int, 31) }), 2, api.ErrRange},
		{"a hose to itself", changed(func(p *api.RoundPlant) { p.Hoses[4] = [2]int{2, 2} }), 4, api.ErrZero},
		{"a hose from none to itself", changed(func(p *api.RoundPlant) { p.Hoses[4] = [2]int{3, 3} }), 4, api.ErrMissing},
		{"a hose twice", changed(func(p *api.RoundPlant) { p.Hoses[5] = p.Hoses[0] }), 5, api.ErrDouble},
		{"a hose to itself twice", changed(func(p *api.RoundPlant) { p.Hoses = pairs(0, 0, 0, 0) }), 0, api.ErrZero},
		{"the first wrong hose", changed(func(p *api.RoundPlant) { p.Hoses = pairs(0, 1, 2, 1, 0, 1, 0, 0, 0, 3) }), 2, api.ErrDouble},
		{"a hose thirty times", changed(func(p *api.RoundPlant) { p.Hoses = slices.Repeat(p.Hoses[:1], 30) }), 1, api.ErrDouble},
	}
	for _, s := range wrongNames() {
		l = append(l, wrongPlant{fmt.Sprintf("the name %q", s), changed(func(p *api.RoundPlant) { p.Vessels[1] = api.RoundVessel{Name: s} }), 1, api.ErrName})
	}
	for _, n := range outside(1, 50) {
		l = append(l, wrongPlant{fmt.Sprint("the size ", n), changed(func(p *api.RoundPlant) { p.Vessels[2].Size = n }), 2, api.ErrRange})
	}
	for _, n := range outside(0, 2) {
		l = append(l,
			wrongPlant{fmt.Sprint("a hose from ", n), changed(func(p *api.RoundPlant) { p.Hoses[3] = [2]int{n, 0} }), 3, api.ErrMissing},
			wrongPlant{fmt.Sprint("a hose to ", n), changed(func(p *api.RoundPlant) { p.Hoses[1] = [2]int{2, n} }), 1, api.ErrMissing})
	}
	return l
}

// A wrongState is a state of three with an error.
type wrongState struct {
	s api.RoundState
	e api.Errno
}

// wrongStates is states of three with errors, some of them with several.
func wrongStates() []wrongState {
	l := []wrongState{
		{api.RoundState{}, api.ErrShape},
		{stand(numbers(8, 0), numbers(1, 0, 0)), api.ErrShape},
		{stand(numbers(8, 0, 0), numbers(1, 0)), api.ErrShape},
		{stand(numbers(9, 0), numbers(4, 0)), api.ErrShape},
		{stand(numbers(8, 0, 0, 0), numbers(1, 0, 0)), api.ErrShape},
		{stand(numbers(-1, 0, 0), numbers(1, 0, 0, 0)), api.ErrShape},
		{stand(numbers(8, 0, 1), numbers(0, 0, 4)), api.ErrClash},
		{stand(numbers(8, 0, 1), numbers(1, 1, 4)), api.ErrClash},
		{stand(numbers(8, 9, 1), numbers(1, 4, 0)), api.ErrRange},
		{stand(numbers(8, 0, 3), numbers(1, 0, 0)), api.ErrClash},
		{stand(numbers(8, 0, 0), numbers(1, 0, 3)), api.ErrClash},
		{stand(numbers(0, 0, 0), numbers(4, 0, 0)), api.ErrRange},
		{stand(numbers(0, 0, 0), numbers(2, 0, -1)), api.ErrClash},
	}
	for vessel, size := range numbers(8, 5, 3) {
		for _, n := range outside(0, size) {
			s := filled(1, 1, 1)
			s.Content[vessel] = n
			l = append(l, wrongState{s, api.ErrRange})
		}
		for _, n := range outside(0, 3) {
			s := filled(1, 1, 1)
			s.Wine[vessel] = n
			l = append(l, wrongState{s, api.ErrRange})
		}
	}
	return l
}

// A wrongTask is a task of three with an error.
type wrongTask struct {
	t api.RoundTask
	e api.Errno
}

// wrongTasks is tasks of three with errors, some of them with several.
func wrongTasks() []wrongTask {
	end := func(content, wine []int) api.RoundTask {
		return api.RoundTask{Start: eight(), Content: content, Wine: wine}
	}
	l := []wrongTask{
		{end(nil, nil), api.ErrShape},
		{end(numbers(9, 9), numbers(0, 0, 0)), api.ErrShape},
		{end(numbers(9, 9, 9), numbers(0, 0)), api.ErrShape},
		{end(numbers(0, 0, 0, 0), numbers(4, 4, 4)), api.ErrShape},
		{end(numbers(0, 0, 0), numbers(4, 4, 4, 4)), api.ErrShape},
		{end(numbers(0, 9, 0), numbers(1, 0, 0)), api.ErrClash},
		{end(numbers(0, 0, 9), numbers(4, 0, 0)), api.ErrRange},
		{end(numbers(0, 0, 0), numbers(0, 0, 1)), api.ErrClash},
		{end(numbers(0, 0, -1), numbers(0, 3, 4)), api.ErrClash},
	}
	for vessel, size := range numbers(8, 5, 3) {
		for _, n := range outside(-1, size) {
			t := half()
			t.Content[vessel] = n
			l = append(l, wrongTask{t, api.ErrRange})
		}
		for _, n := range outside(0, 3) {
			t := wish(eight(), 0, 0, 0)
			t.Wine[vessel] = n
			l = append(l, wrongTask{t, api.ErrRange})
		}
	}
	for _, x := range wrongStates() {
		l = append(l, wrongTask{wish(x.s), x.e}, wrongTask{wish(x.s, 4, 4, 0), x.e})
	}
	return l
}

// nothing tells whether a result is nothing.
func nothing[T any](x T, e api.Errno) (bool, api.Errno) {
	return reflect.ValueOf(&x).Elem().IsZero(), e
}

// nothings is nothing for two results.
func nothings[T, U any](x T, y U, e api.Errno) (bool, api.Errno) {
	isNothing, _ := nothing(x, e)
	isToo, _ := nothing(y, e)
	return isNothing && isToo, e
}

// only is an error with nothing beside it.
func only(e api.Errno) (bool, api.Errno) { return true, e }

// allRefuse asks for an error of each asking, and for nothing beside it.
func allRefuse[T any](t *testing.T, what string, of T, askings map[string]func(of T) (bool, api.Errno), e api.Errno) {
	t.Helper()
	for name, ask := range askings {
		isNothing, f := ask(of)
		want(t, name+": "+what, isNothing, f, true, e)
	}
}
