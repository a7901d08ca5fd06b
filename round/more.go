package round

import (
	"slices"

	"criadera/api"
	"criadera/checks"
)

// nameOfMore is the name of a further vessel.
const nameOfMore = "more"

// WithVessel returns a plant with a further vessel of a size, and a task with it.
func WithVessel(p api.RoundPlant, t api.RoundTask, size int) (api.RoundPlant, api.RoundTask, api.Errno) {
	vessels := len(p.Vessels)
	if e := checks.First(
		CheckTask(p, t),
		checks.Number(size, 1, api.MaxRoundSize),
		checks.Unless(vessels < api.MaxRoundVessels && len(p.Hoses)+2*vessels <= mostHoses, api.ErrFull),
		checks.Unless(!slices.Contains(namesOf(p.Vessels), nameOfMore), api.ErrExists)); e != api.OK {
		return api.RoundPlant{}, api.RoundTask{}, e
	}
	hoses := slices.Clone(p.Hoses)
	for vessel := range vessels {
		hoses = append(hoses, [2]int{vessels, vessel}, [2]int{vessel, vessels})
	}
	more := api.RoundVessel{Name: nameOfMore, Size: size}
	start := api.RoundState{Content: with(t.Start.Content, 0), Wine: with(t.Start.Wine, 0)}
	return api.RoundPlant{Vessels: with(p.Vessels, more), Hoses: hoses},
		api.RoundTask{Start: start, Content: with(t.Content, api.RoundAny), Wine: with(t.Wine, 0)},
		api.OK
}

// with is a new list with one more element at its end.
func with[T any](l []T, more T) []T { return slices.Concat(l, []T{more}) }

// distanceError is the error of the distance of a task with a further vessel of a size.
func distanceError(p api.RoundPlant, t api.RoundTask, size int) api.Errno {
	more, longer, e := WithVessel(p, t, size)
	if e != api.OK {
		return e
	}
	_, e = Distance(more, longer)
	return e
}

// WouldDo returns the least size of a further vessel with which there is a way (0 if there is one without).
func WouldDo(p api.RoundPlant, t api.RoundTask, most int) (int, api.Errno) {
	if e := checks.First(CheckTask(p, t), checks.Number(most, 1, api.MaxRoundSize)); e != api.OK {
		return 0, e
	}
	size := 0
	_, e := Distance(p, t)
	for e == api.ErrNone && size < most {
		size++
		e = distanceError(p, t, size)
	}
	if e != api.OK {
		return 0, e
	}
	return size, api.OK
}
