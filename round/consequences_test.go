package round

import (
	"fmt"
	"math/rand"
	"slices"
	"testing"

	"criadera/api"
)

// TestNothingSpilled: P9.2 and P9.8: moves are those of the chapter's definition, and what they do keeps the totals and the sizes.
func TestNothingSpilled(t *testing.T) {
	r := rand.New(rand.NewSource(1))
	done := 0
	for range 1500 {
		p := somePlant(r, 6)
		s := someState(r, p)
		l, e := Moves(p, s)
		want(t, "the moves", l, e, plainMoves(p, s), api.OK)
		for from := range p.Vessels {
			for to := range p.Vessels {
				m := move(from, to)
				next, e := Apply(p, s, m)
				if !slices.Contains(l, m) {
					want(t, "one that cannot be done", fmt.Sprint(next), 0, fmt.Sprint(api.RoundState{}), 0)
					if e == api.OK {
						t.Fatalf("%v, %v: %v was done", p, s, m)
					}
					continue
				}
				done++
				want(t, "the state", next, e, plainAfter(p, s, m), api.OK)
				want(t, "the state", 0, CheckState(p, next), 0, api.OK)
				for wine := 1; wine <= 3; wine++ {
					before, _ := Total(p, s, wine)
					after, e := Total(p, next, wine)
					want(t, "the total", after, e, before, api.OK)
				}
			}
		}
	}
	if done < 3000 {
		t.Errorf("%d moves", done)
	}
}

// TestRunsOfSome: P9.2: moves one after the other are done as each one by itself.
func TestRunsOfSome(t *testing.T) {
	r := rand.New(rand.NewSource(2))
	for range 1000 {
		p := somePlant(r, 4)
		s := someState(r, p)
		x, n := s, 0
		f := api.OK
		l := someMoves(r, p)
		for ; n < len(l) && f == api.OK; n++ {
			var next api.RoundState
			if next, f = Apply(p, x, l[n]); f == api.OK {
				x = next
			}
		}
		end, number, e := Run(p, s, l)
		if f == api.OK {
			want(t, "the end", end, e, x, api.OK)
			want(t, "no number", number, 0, 0, 0)
			continue
		}
		refused(t, "the end", end, e, f)
		want(t, "the number", number, 0, n-1, 0)
	}
}

// someMoves is random moves between vessels of a plant, often along its hoses.
func someMoves(r *rand.Rand, p api.RoundPlant) []api.RoundMove {
	var l []api.RoundMove
	for range r.Intn(8) {
		m := move(r.Intn(len(p.Vessels)), r.Intn(len(p.Vessels)))
		if len(p.Hoses) > 0 && r.Intn(8) > 0 {
			hose := pick(r, p.Hoses)
			m = move(hose[0], hose[1])
		}
		l = append(l, m)
	}
	return l
}

// TestFewestOfSome: P9.4, P9.5 and P9.9: ways are as short as the chapter's definition tells, and the layers ahead prove that none is shorter.
func TestFewestOfSome(t *testing.T) {
	r := rand.New(rand.NewSource(3))
	found, failed := 0, 0
	for range 1200 {
		p := somePlant(r, 4)
		task := someTask(r, p)
		layers, e := Layers(p, task.Start)
		want(t, "the layers", layers, e, plainLayers(p, task.Start), api.OK)
		distance := plainDistance(p, task)
		n, e := Distance(p, task)
		way, f := Fewest(p, task)
		if distance < 0 {
			failed++
			refused(t, "the distance", n, e, api.ErrNone)
			refused(t, "the way", way, f, api.ErrNone)
			continue
		}
		found++
		want(t, "the distance", n, e, distance, api.OK)
		n, g := CheckMoves(p, task, way)
		want(t, "the way", n, f, distance, g)
		end, _, e := Run(p, task.Start, way)
		want(t, "the way", plainMeets(task, end), e, true, api.OK)
		n, e = CheckLayers(p, task, layers[:distance])
		if distance == 0 {
			refused(t, "no layers", n, e, api.ErrProof)
		} else {
			want(t, "the layers ahead", n, e, distance, api.OK)
		}
		n, e = CheckLayers(p, task, layers[:distance+1])
		refused(t, "one layer more", n, e, api.ErrProof)
	}
	if found < 400 || failed < 200 {
		t.Errorf("%d tasks had a way, %d had none", found, failed)
	}
}

// TestLayersOfSome: P9.5 and P9.9: lists are accepted just if they prove what they tell, and then no fewer moves are.
func TestLayersOfSome(t *testing.T) {
	r := rand.New(rand.NewSource(4))
	accepted, refusals := 0, 0
	for range 3000 {
		p := somePlant(r, 3)
		task := someTask(r, p)
		lists := plainLayers(p, task.Start)
		distance := plainDistance(p, task)
		if distance >= 0 {
			lists = lists[:min(distance+r.Intn(2), len(lists))]
		}
		lists = bent(r, p, lists)
		n, e := CheckLayers(p, task, lists)
		if !plainNeeds(p, task, lists) {
			refusals++
			refused(t, "lists that prove nothing", n, e, api.ErrProof)
			continue
		}
		accepted++
		want(t, "lists that prove it", n, e, len(lists), api.OK)
		if distance >= 0 && distance < n {
			t.Fatalf("%v, %v: %v", p, task, lists)
		}
		for range 5 {
			if many, e := CheckMoves(p, task, someMoves(r, p)); e == api.OK && many < n {
				t.Fatalf("%v, %v: %d moves", p, task, many)
			}
		}
	}
	if accepted < 500 || refusals < 500 {
		t.Errorf("%d were accepted, %d were not", accepted, refusals)
	}
}

// TestNoWay: P9.5 and P9.10: without a way all states that can be reached are accepted; what is accepted proves that there is none.
func TestNoWay(t *testing.T) {
	r := rand.New(rand.NewSource(5))
	none, accepted, refusals, divided := 0, 0, 0, 0
	for range 2500 {
		p := somePlant(r, 3)
		if r.Intn(2) == 0 {
			for n := range p.Vessels {
				p.Vessels[n].Size *= 2 + r.Intn(2)
			}
		}
		task := someTask(r, p)
		all := slices.Concat(plainLayers(p, task.Start)...)
		distance := plainDistance(p, task)
		n, e := CheckClosed(p, task, all)
		if distance >= 0 {
			refused(t, "all states, one of which meets it", n, e, api.ErrProof)
		} else {
			none++
			want(t, "all states", n, e, len(all), api.OK)
		}
		set := slices.CompactFunc(slices.Concat(bent(r, p, [][]api.RoundState{all})...), plainSame)
		n, e = CheckClosed(p, task, set)
		switch {
		case hasDouble(set):
			refused(t, "one twice", n, e, api.ErrDouble)
		case plainClosed(p, task, set):
			accepted++
			want(t, "a closed set", n, e, len(set), api.OK)
			want(t, "and no way", distance, 0, -1, 0)
		default:
			refusals++
			refused(t, "no closed set", n, e, api.ErrProof)
		}
		divided += divisorsOf(t, p, task, distance)
	}
	if none < 500 || accepted < 300 || refusals < 300 || divided < 100 {
		t.Errorf("%d tasks had no way; %d sets were accepted, %d were not; %d divisors were accepted", none, accepted, refusals, divided)
	}
}

func hasDouble(l []api.RoundState) bool {
	for n, s := range l {
		if isIn(s, l[:n]) {
			return true
		}
	}
	return false
}

// divisorsOf looks at all divisors of a task with a distance, and returns how many were accepted.
func divisorsOf(t *testing.T, p api.RoundPlant, task api.RoundTask, distance int) int {
	divisor, e := Divisor(p, task)
	want(t, "the divisor", 0, e, 0, api.OK)
	accepted := 0
	for by := 2; by <= 50; by++ {
		divides := func(n int) bool { return n%by == 0 }
		isCommon := !slices.ContainsFunc(p.Vessels, func(v api.RoundVessel) bool { return !divides(v.Size) }) && !slices.ContainsFunc(task.Start.Content, func(n int) bool { return !divides(n) })
		want(t, "a divisor", divisor%by == 0, 0, isCommon, 0)
		isLeft := slices.ContainsFunc(task.Content, func(n int) bool { return n != api.RoundAny && !divides(n) })
		e := CheckDivisor(p, task, by)
		if !isCommon || !isLeft {
			want(t, "no proof", 0, e, 0, api.ErrProof)
			continue
		}
		accepted++
		want(t, "a proof", distance, e, -1, api.OK)
	}
	for vessel := range p.Vessels {
		amounts, e := Amounts(p, task.Start, vessel)
		var l []int
		for _, s := range slices.Concat(plainLayers(p, task.Start)...) {
			l = append(l, s.Content[vessel])
		}
		slices.Sort(l)
		want(t, "the amounts", amounts, e, slices.Compact(l), api.OK)
		for _, n := range amounts {
			want(t, "a multiple", n%divisor, 0, 0, 0)
		}
	}
	return accepted
}

// TestFurtherVessel: P9.6 and P9.11: a further vessel takes no way away, and the least one that would do is the first one with a way.
func TestFurtherVessel(t *testing.T) {
	r := rand.New(rand.NewSource(6))
	without, with, none := 0, 0, 0
	for range 1500 {
		p := somePlant(r, 3)
		task := someTask(r, p)
		most := 1 + r.Intn(4)
		least := -1
		if plainDistance(p, task) >= 0 {
			least = 0
		}
		for size := 1; size <= most; size++ {
			q, x, e := WithVessel(p, task, size)
			plant, longer := plainWith(p, task, size)
			want(t, "the plant", q, e, plant, api.OK)
			want(t, "the task", x, e, longer, api.OK)
			distance, e := Distance(q, x)
			switch {
			case plainDistance(plant, longer) < 0:
				refused(t, "the distance", distance, e, api.ErrNone)
				want(t, "no way", least != 0, 0, true, 0)
			default:
				want(t, "the distance", distance, e, plainDistance(plant, longer), api.OK)
				if least < 0 {
					least = size
				}
			}
		}
		size, e := WouldDo(p, task, most)
		switch {
		case least < 0:
			none++
			refused(t, "what would do", size, e, api.ErrNone)
			continue
		case least == 0:
			without++
		default:
			with++
		}
		want(t, "what would do", size, e, least, api.OK)
	}
	if without < 100 || with < 50 || none < 50 {
		t.Errorf("%d tasks had a way without, %d with a further vessel, %d had none", without, with, none)
	}
}

// TestTextsOfSome: P9.7 and P9.12.
func TestTextsOfSome(t *testing.T) {
	r := rand.New(rand.NewSource(7))
	for range 1000 {
		p := somePlant(r, 6)
		l := someMoves(r, p)
		s, e := FormatMoves(p, l)
		want(t, "the text", 0, e, 0, api.OK)
		read, e := ParseMoves(p, s)
		want(t, s, read, e, l, api.OK)
	}
}

// TestTasksOfSome: P9.3 and P9.12: the task of acts is met by the state behind them, and that of none by the first one.
func TestTasksOfSome(t *testing.T) {
	r := rand.New(rand.NewSource(8))
	done := 0
	for range 2000 {
		p := somePlant(r, 5)
		s := someState(r, p)
		task, e := TaskOf(p, s, nil)
		want(t, "no acts", task, e, api.RoundTask{Start: s, Content: s.Content, Wine: s.Wine}, api.OK)
		is, e := Meets(p, task, s)
		want(t, "no acts", is, e, true, api.OK)
		x := s
		var acts []api.RoundAct
		for range r.Intn(20) {
			if l := plainMoves(p, x); len(l) > 0 {
				m := pick(r, l)
				next := plainAfter(p, x, m)
				acts = append(acts, act(m.From, m.To, next.Content[m.To]-x.Content[m.To]))
				x = next
			}
		}
		done += len(acts)
		task, e = TaskOf(p, s, acts)
		want(t, "acts", task, e, api.RoundTask{Start: s, Content: x.Content, Wine: x.Wine}, api.OK)
		other := someState(r, p)
		is, e = Meets(p, task, other)
		want(t, "another state", is, e, plainMeets(task, other), api.OK)
	}
	if done < 2000 {
		t.Errorf("%d acts", done)
	}
}
