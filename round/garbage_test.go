package round

import (
	"fmt"
	"math"
	"math/rand"
	"slices"
	"testing"

	"criadera/api"
)

// wild is a number that is seldom right.
func wild(r *rand.Rand) int {
	return pick(r, numbers(0, 1, -1, 2, 3, 4, 5, 6, 7, 50, 51, math.MinInt, math.MaxInt))
}

func wildList(r *rand.Rand, most int) []int {
	var l []int
	for range r.Intn(most + 1) {
		l = append(l, wild(r))
	}
	return l
}

// wildPlant is a random plant, mostly right, of which some part is wild.
func wildPlant(r *rand.Rand) api.RoundPlant {
	p := somePlant(r, 3)
	switch v := &p.Vessels[r.Intn(len(p.Vessels))]; r.Intn(15) {
	case 0:
		p.Vessels = slices.Repeat(p.Vessels, r.Intn(4))
	case 1:
		v.Name = pick(r, wrongNames())
	case 2:
		v.Size = wild(r)
	case 3:
		p.Hoses = append(p.Hoses, [2]int{wild(r), wild(r)})
	}
	return p
}

// wildState is a random state of a plant, mostly right, of which some part is wild.
func wildState(r *rand.Rand, p api.RoundPlant) api.RoundState {
	s := filled(make([]int, len(p.Vessels))...)
	for n := range s.Content {
		s.Content[n], s.Wine[n] = 1, 1
	}
	switch r.Intn(8) {
	case 0:
		s.Content = wildList(r, 4)
	case 1:
		s.Wine = wildList(r, 4)
	case 2:
		s = stand(wildList(r, 4), wildList(r, 4))
	}
	return s
}

// wildTask is a random task of a plant, mostly right, of which some part is wild.
func wildTask(r *rand.Rand, p api.RoundPlant) api.RoundTask {
	t := wish(wildState(r, p), make([]int, len(p.Vessels))...)
	switch r.Intn(6) {
	case 0:
		t.Content = wildList(r, 4)
	case 1:
		t.Wine = wildList(r, 4)
	case 2:
		t.Content = slices.Repeat(numbers(-1), len(p.Vessels))
	}
	return t
}

// TestGarbage: R1 and R2: whatever the arguments are, each function ends, and beside an error there is nothing.
func TestGarbage(t *testing.T) {
	r := rand.New(rand.NewSource(9))
	right, wrong := 0, 0
	seen := func(isNothing bool, e api.Errno) {
		t.Helper()
		if e == api.OK {
			right++
			return
		}
		wrong++
		if !isNothing {
			t.Errorf("something beside the error %d", e)
		}
	}
	for range 3000 {
		p := wildPlant(r)
		s, x := wildState(r, p), wildTask(r, p)
		m := move(wild(r), wild(r))
		list := []api.RoundState{s, wildState(r, p), s}[:r.Intn(4)]
		_, e := CheckPlant(p)
		seen(only(e))
		seen(only(CheckState(p, s)))
		seen(nothing(Total(p, s, wild(r))))
		seen(nothing(Apply(p, s, m)))
		seen(nothing(Moves(p, s)))
		end, _, e := Run(p, s, []api.RoundMove{m, m})
		seen(nothing(end, e))
		seen(only(CheckTask(p, x)))
		seen(nothing(Meets(p, x, s)))
		seen(nothing(Layers(p, s)))
		seen(nothing(Distance(p, x)))
		seen(nothing(Fewest(p, x)))
		seen(nothing(CheckMoves(p, x, []api.RoundMove{m})))
		seen(nothing(CheckLayers(p, x, [][]api.RoundState{list, list})))
		seen(nothing(CheckClosed(p, x, list)))
		seen(nothing(Divisor(p, x)))
		seen(only(CheckDivisor(p, x, wild(r))))
		seen(nothing(Amounts(p, s, wild(r))))
		seen(nothings(WithVessel(p, x, wild(r))))
		seen(nothing(WouldDo(p, x, wild(r))))
		seen(nothing(TaskOf(p, s, []api.RoundAct{act(wild(r), wild(r), wild(r))})))
		seen(nothing(FormatMoves(p, []api.RoundMove{m})))
		seen(nothing(ParseMoves(p, pick(r, []string{"", "a b", "b a;c a", "a", "a ;b", "a\xffb \xc3"}))))
	}
	if right < 10000 || wrong < 10000 {
		t.Errorf("%d calls were right, %d were not", right, wrong)
	}
}

// TestArgumentsStay: R3: nothing is written into arguments, and results share no memory with them, with each other, or with later results.
func TestArgumentsStay(t *testing.T) {
	p, s, x := three(), eight(), half()
	hoses := moves(0, 1, 0, 2)
	acts := []api.RoundAct{act(0, 1, 2), act(1, 2, 1)}
	all := layersOfEight()
	for range 2 {
		next, e := Apply(p, s, move(0, 1))
		want(t, "the state", next, e, filled(3, 5, 0), api.OK)
		same, _, e := Run(p, s, nil)
		want(t, "the same state", same, e, eight(), api.OK)
		open, e := Moves(p, s)
		want(t, "the moves", open, e, hoses, api.OK)
		task, e := TaskOf(p, s, acts)
		want(t, "the task", task, e, api.RoundTask{Start: eight(), Content: numbers(6, 1, 1), Wine: numbers(1, 1, 1)}, api.OK)
		layers, e := Layers(p, s)
		want(t, "the layers", layers, e, layersOfEight(), api.OK)
		fewest, e := Fewest(p, x)
		want(t, "the way", fewest, e, way(), api.OK)
		amounts, e := Amounts(p, s, 2)
		want(t, "the amounts", amounts, e, numbers(0, 1, 2, 3), api.OK)
		more, longer, e := WithVessel(p, x, 4)
		want(t, "the hoses", more.Hoses, e, slices.Concat(every(3), pairs(3, 0, 0, 3, 3, 1, 1, 3, 3, 2, 2, 3)), api.OK)
		n, e := CheckLayers(p, x, all[:7])
		want(t, "the proof", n, e, 7, api.OK)
		n, e = CheckClosed(p, wish(s, 4, 4, 1), slices.Concat(all...))
		want(t, "the closed set", n, e, 16, api.OK)
		lists := [][]int{next.Content, next.Wine, same.Content, same.Wine, task.Start.Content, task.Start.Wine, task.Content, task.Wine, amounts, longer.Start.Content, longer.Start.Wine, longer.Content, longer.Wine}
		for n, layer := range layers {
			layers[n] = append(layer, eight())
			for _, s := range layer {
				lists = append(lists, s.Content, s.Wine)
			}
		}
		for n, list := range lists {
			_ = append(list, -9)
			for i := range list {
				list[i] = 100 + n
			}
		}
		for n, list := range lists {
			want(t, "a list of its own", list, 0, slices.Repeat(numbers(100+n), len(list)), 0)
		}
		open[0], fewest[0], more.Hoses[0], more.Vessels[0].Size = move(9, 9), move(9, 9), [2]int{9, 9}, 9
		_, _ = append(more.Hoses, [2]int{9, 9}), append(more.Vessels, api.RoundVessel{})
		want(t, "the arguments", fmt.Sprint(p, s, x, acts, all), 0, fmt.Sprint(three(), eight(), half(), []api.RoundAct{act(0, 1, 2), act(1, 2, 1)}, layersOfEight()), 0)
	}
}

// TestSpareMemoryStays: R3: nothing is written behind the ends of arguments either.
func TestSpareMemoryStays(t *testing.T) {
	p, x := two(), odd()
	hoses, vessels := slices.Grow(p.Hoses, 9), slices.Grow(p.Vessels, 9)
	lists := [][]int{slices.Grow(x.Start.Content, 9), slices.Grow(x.Start.Wine, 9), slices.Grow(x.Content, 9), slices.Grow(x.Wine, 9)}
	p = api.RoundPlant{Vessels: vessels, Hoses: hoses}
	x = api.RoundTask{Start: stand(lists[0], lists[1]), Content: lists[2], Wine: lists[3]}
	_, _, e := WithVessel(p, x, 1)
	want(t, "the further vessel", 0, e, 0, api.OK)
	n, e := Divisor(p, x)
	want(t, "the divisor", n, e, 2, api.OK)
	n, e = WouldDo(p, x, 50)
	want(t, "what would do", n, e, 1, api.OK)
	_, e = TaskOf(p, x.Start, []api.RoundAct{act(0, 1, 1)})
	want(t, "the task", 0, e, 0, api.OK)
	want(t, "behind the hoses", hoses[2:11], 0, make([][2]int, 9), 0)
	want(t, "behind the vessels", vessels[2:11], 0, make([]api.RoundVessel, 9), 0)
	for _, l := range lists {
		want(t, "behind a list", l[2:11], 0, make([]int, 9), 0)
	}
}
