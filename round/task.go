package round

import (
	"criadera/api"
	"criadera/checks"
)

// A task is a checked one, with its plant.
type task struct {
	api.RoundTask
	plant
	start state
}

func toDo(p api.RoundPlant, t api.RoundTask) (task, api.Errno) {
	checked, start, e := stoodOf(p, t.Start)
	if e != api.OK {
		return task{}, e
	}
	if e := checked.endError(t); e != api.OK {
		return task{}, e
	}
	return task{t, checked, start}, api.OK
}

// endError asks for what vessels must have in the end.
func (p plant) endError(t api.RoundTask) api.Errno {
	vessels := len(p.Vessels)
	if len(t.Content) != vessels || len(t.Wine) != vessels {
		return api.ErrShape
	}
	_, e := checks.Each(vessels, func(n int) api.Errno {
		isRight := t.Content[n] == api.RoundAny || 0 <= t.Content[n] && t.Content[n] <= p.Vessels[n].Size
		return checks.First(
			checks.Unless(isRight, api.ErrRange),
			checks.Number(t.Wine[n], 0, api.MaxRoundWines),
			checks.Unless(t.Wine[n] == 0 || t.Content[n] != 0, api.ErrClash))
	})
	return e
}

// isMetBy tells whether a state meets the task.
func (t task) isMetBy(s state) bool {
	for vessel := range t.Vessels {
		content, wine := t.Content[vessel], t.Wine[vessel]
		if content != api.RoundAny && content != s.content[vessel] || wine != 0 && wine != s.wine[vessel] {
			return false
		}
	}
	return true
}

// CheckTask returns the first error of a task.
func CheckTask(p api.RoundPlant, t api.RoundTask) api.Errno {
	_, e := toDo(p, t)
	return e
}

// Meets returns whether a state meets a task.
func Meets(p api.RoundPlant, t api.RoundTask, s api.RoundState) (bool, api.Errno) {
	checked, e := toDo(p, t)
	if e != api.OK {
		return false, e
	}
	x, e := checked.stateOf(s)
	return e == api.OK && checked.isMetBy(x), e
}

// act is the state behind an act.
func (p plant) act(s state, a api.RoundAct) (state, api.Errno) {
	if e := p.bothError(a.From, a.To); e != api.OK {
		return state{}, e
	}
	if e := checks.First(
		checks.Unless(a.From != a.To, api.ErrZero),
		checks.Number(a.Amount, 1, api.MaxRoundSize),
		checks.Unless(s.content[a.From] >= a.Amount, api.ErrNone),
		checks.Unless(p.room(s, a.To) >= a.Amount, api.ErrFull),
		checks.Unless(s.takes(a.To, a.From), api.ErrClash)); e != api.OK {
		return state{}, e
	}
	return s.moved(a.From, a.To, a.Amount), api.OK
}

// TaskOf returns the task of acts.
func TaskOf(p api.RoundPlant, s api.RoundState, l []api.RoundAct) (api.RoundTask, api.Errno) {
	checked, start, e := stoodOf(p, s)
	if e := checks.First(e, checks.Unless(len(l) <= api.MaxRoundActs, api.ErrLarge)); e != api.OK {
		return api.RoundTask{}, e
	}
	x, _, e := follow(start, l, checked.act)
	if e != api.OK {
		return api.RoundTask{}, e
	}
	end := checked.told(x)
	return api.RoundTask{Start: checked.told(start), Content: end.Content, Wine: end.Wine}, api.OK
}
