package round

import (
	"fmt"
	"math/rand"
	"slices"

	"criadera/api"
)

// plainMoves is all moves that can be done, by the chapter's definition.
func plainMoves(p api.RoundPlant, s api.RoundState) []api.RoundMove {
	var l []api.RoundMove
	for from := range p.Vessels {
		for to, v := range p.Vessels {
			isOpen := slices.Contains(p.Hoses, [2]int{from, to})
			if isOpen && s.Content[from] > 0 && s.Content[to] < v.Size && (s.Content[to] == 0 || s.Wine[to] == s.Wine[from]) {
				l = append(l, move(from, to))
			}
		}
	}
	return l
}

// plainAfter is the state behind a move that can be done, poured one by one.
func plainAfter(p api.RoundPlant, s api.RoundState, m api.RoundMove) api.RoundState {
	x := copied(s)
	for x.Content[m.From] > 0 && x.Content[m.To] < p.Vessels[m.To].Size {
		x.Content[m.From]--
		x.Content[m.To]++
		x.Wine[m.To] = s.Wine[m.From]
	}
	if x.Content[m.From] == 0 {
		x.Wine[m.From] = 0
	}
	return x
}

// plainNext is all states that one move leads to.
func plainNext(p api.RoundPlant, s api.RoundState) []api.RoundState {
	var l []api.RoundState
	for _, m := range plainMoves(p, s) {
		l = append(l, plainAfter(p, s, m))
	}
	return l
}

func plainSame(a, b api.RoundState) bool {
	return slices.Equal(a.Content, b.Content) && slices.Equal(a.Wine, b.Wine)
}

// isIn tells whether a state is one of some.
func isIn(s api.RoundState, l []api.RoundState) bool {
	return slices.ContainsFunc(l, func(x api.RoundState) bool { return plainSame(x, s) })
}

// areIn tells whether all states that one move leads to are some of a list.
func areIn(p api.RoundPlant, s api.RoundState, l []api.RoundState) bool {
	return !slices.ContainsFunc(plainNext(p, s), func(x api.RoundState) bool { return !isIn(x, l) })
}

// plainLayers is the layers of a state, however many states there are.
func plainLayers(p api.RoundPlant, s api.RoundState) [][]api.RoundState {
	seen := map[string]bool{fmt.Sprint(s): true}
	layers := [][]api.RoundState{{s}}
	for {
		var next []api.RoundState
		for _, x := range layers[len(layers)-1] {
			for _, y := range plainNext(p, x) {
				if key := fmt.Sprint(y); !seen[key] {
					seen[key] = true
					next = append(next, y)
				}
			}
		}
		if len(next) == 0 {
			return layers
		}
		slices.SortFunc(next, func(a, b api.RoundState) int {
			return slices.Compare(slices.Concat(a.Content, a.Wine), slices.Concat(b.Content, b.Wine))
		})
		layers = append(layers, next)
	}
}

func plainMeets(t api.RoundTask, s api.RoundState) bool {
	for n := range t.Content {
		if t.Content[n] != api.RoundAny && t.Content[n] != s.Content[n] {
			return false
		}
		if t.Wine[n] != 0 && t.Wine[n] != s.Wine[n] {
			return false
		}
	}
	return true
}

// plainDistance is the distance of a task, or -1 if there is no way.
func plainDistance(p api.RoundPlant, t api.RoundTask) int {
	return slices.IndexFunc(plainLayers(p, t.Start), func(layer []api.RoundState) bool {
		return slices.ContainsFunc(layer, func(s api.RoundState) bool { return plainMeets(t, s) })
	})
}

// plainNeeds tells whether lists prove that a task needs so many moves.
func plainNeeds(p api.RoundPlant, t api.RoundTask, lists [][]api.RoundState) bool {
	if len(lists) == 0 || !isIn(t.Start, lists[0]) {
		return false
	}
	for n, list := range lists {
		for _, s := range list {
			if plainMeets(t, s) || n+1 < len(lists) && !areIn(p, s, slices.Concat(lists[:n+2]...)) {
				return false
			}
		}
	}
	return true
}

// plainClosed tells whether states are a closed set that proves that there is no way.
func plainClosed(p api.RoundPlant, t api.RoundTask, l []api.RoundState) bool {
	return isIn(t.Start, l) && !slices.ContainsFunc(l, func(s api.RoundState) bool { return plainMeets(t, s) || !areIn(p, s, l) })
}

// plainWith is a plant with a further vessel, and a task with it.
func plainWith(p api.RoundPlant, t api.RoundTask, size int) (api.RoundPlant, api.RoundTask) {
	last := len(p.Vessels)
	q := api.RoundPlant{Vessels: append(slices.Clone(p.Vessels), api.RoundVessel{Name: "more", Size: size})}
	q.Hoses = append(q.Hoses, p.Hoses...)
	for n := range last {
		q.Hoses = append(q.Hoses, pairs(last, n, n, last)...)
	}
	x := wish(copied(t.Start), append(slices.Clone(t.Content), api.RoundAny)...)
	copy(x.Wine, t.Wine)
	x.Start.Content, x.Start.Wine = append(x.Start.Content, 0), append(x.Start.Wine, 0)
	return q, x
}

// somePlant is a random plant with so many vessels at most.
func somePlant(r *rand.Rand, most int) api.RoundPlant {
	var sizes []int
	for range 1 + r.Intn(most) {
		sizes = append(sizes, 1+r.Intn(7))
	}
	p := full(sizes...)
	r.Shuffle(len(p.Hoses), func(a, b int) { p.Hoses[a], p.Hoses[b] = p.Hoses[b], p.Hoses[a] })
	if r.Intn(2) == 0 {
		p.Hoses = p.Hoses[:r.Intn(len(p.Hoses)+1)]
	}
	return p
}

// someState is a random state of a plant, mostly of one wine.
func someState(r *rand.Rand, p api.RoundPlant) api.RoundState {
	wines := 1
	if r.Intn(3) == 0 {
		wines = 3
	}
	s := filled(make([]int, len(p.Vessels))...)
	for n, v := range p.Vessels {
		if content := r.Intn(v.Size + 1); content > 0 && r.Intn(3) > 0 {
			s.Content[n], s.Wine[n] = content, 1+r.Intn(wines)
		}
	}
	return s
}

// someTask is a random task of a plant; often there is a way.
func someTask(r *rand.Rand, p api.RoundPlant) api.RoundTask {
	start := someState(r, p)
	end := someState(r, p)
	if r.Intn(2) == 0 {
		layer := pick(r, plainLayers(p, start))
		end = pick(r, layer)
	}
	t := wish(start, end.Content...)
	t.Content = slices.Clone(t.Content)
	for n := range t.Content {
		if r.Intn(3) == 0 {
			t.Content[n] = api.RoundAny
		}
		if t.Content[n] != 0 && r.Intn(4) == 0 {
			t.Wine[n] = end.Wine[n]
		}
	}
	return t
}

// pick is one of a list.
func pick[T any](r *rand.Rand, l []T) T { return l[r.Intn(len(l))] }

// bent is lists with a few random changes.
func bent(r *rand.Rand, p api.RoundPlant, lists [][]api.RoundState) [][]api.RoundState {
	out := make([][]api.RoundState, 0, len(lists))
	for _, l := range lists {
		out = append(out, slices.Clone(l))
	}
	for range r.Intn(4) {
		if len(out) == 0 {
			return out
		}
		n, m := r.Intn(len(out)), r.Intn(len(out))
		switch r.Intn(7) {
		case 0:
			out[n] = append(out[n], someState(r, p))
		case 1:
			out[n] = out[n][:len(out[n])/2]
		case 2:
			out[n] = append(out[n], out[m]...)
		case 3:
			out[n], out[m] = out[m], out[n]
		case 4:
			out = slices.Insert(out, n, nil)
		case 5:
			out = append(out, nil)
		case 6:
			out = slices.Delete(out, n, n+1)
		}
	}
	return out
}
