package scale

import (
	"slices"
	"strconv"

	"criadera/api"
	"criadera/texts"
)

// A run is a system at work: the volumes of its casks, step by step.
type run struct {
	api.ScaleSystem
	rack
}

// runOf begins with a system whose casks are right.
func runOf(s api.ScaleSystem) *run {
	return &run{ScaleSystem: s, rack: rackOf(s.Casks, func(v api.ScaleVessel) (string, vat) {
		return v.Name, vat{capacity: v.Capacity, volume: v.Start}
	})}
}

// step does a step, unless it is wrong.
func (r *run) step(a api.ScaleAct) api.Errno {
	if a.Kind == api.ScaleAdd || a.Kind == api.ScaleLose {
		return api.ErrKind
	}
	if e := CheckAct(a); e != api.OK {
		return e
	}
	if a.Source != 0 {
		return api.ErrForm
	}
	if e := r.refused(a); e != api.OK {
		return e
	}
	r.follow(a)
	return api.OK
}

// isClosed tells whether all casks have their volumes of the start.
func (r *run) isClosed() bool {
	for n, v := range r.Casks {
		if r.vats[n].volume != v.Start {
			return false
		}
	}
	return true
}

// CheckSystem returns the first error of a system, and the mark of what has it.
func CheckSystem(s api.ScaleSystem) (api.ScaleMark, api.Errno) {
	if !texts.IsName(s.Name) {
		return api.ScaleMark{}, api.ErrName
	}
	if m, e := checkVessels(s.Casks); e != api.OK {
		return m, e
	}
	if m, e := checkDays(s.Days); e != api.OK {
		return m, e
	}
	if len(s.Steps) > api.MaxScaleSteps {
		return api.ScaleMark{}, api.ErrLarge
	}
	r := runOf(s)
	if m, e := firstMarked(api.ScaleSteps, s.Steps, r.step); e != api.OK {
		return m, e
	}
	if !r.isClosed() {
		return api.ScaleMark{}, api.ErrOpen
	}
	return api.ScaleMark{}, api.OK
}

// firstMarked is firstWrong with a mark: the list is told by its number.
func firstMarked[T any](list int, l []T, check func(x T) api.Errno) (api.ScaleMark, api.Errno) {
	n, e := firstWrong(l, check)
	if e == api.OK {
		return api.ScaleMark{}, api.OK
	}
	return api.ScaleMark{List: list, Number: n}, e
}

// countError is the error of a list of n elements that may not be empty.
func countError(n, most int) api.Errno {
	switch {
	case n == 0:
		return api.ErrShape
	case n > most:
		return api.ErrLarge
	}
	return api.OK
}

func checkVessels(l []api.ScaleVessel) (api.ScaleMark, api.Errno) {
	if e := countError(len(l), api.MaxScaleCasks); e != api.OK {
		return api.ScaleMark{}, e
	}
	seen := map[string]bool{}
	return firstMarked(api.ScaleVessels, l, func(v api.ScaleVessel) api.Errno {
		switch {
		case !texts.IsName(v.Name):
			return api.ErrName
		case !within(v.Capacity, 1, api.MaxVolume) || !within(v.Start, 0, v.Capacity):
			return api.ErrRange
		case seen[v.Name]:
			return api.ErrExists
		}
		seen[v.Name] = true
		return api.OK
	})
}

func checkDays(l []int) (api.ScaleMark, api.Errno) {
	if e := countError(len(l), api.MaxScaleDays); e != api.OK {
		return api.ScaleMark{}, e
	}
	before := -1
	return firstMarked(api.ScaleDays, l, func(day int) api.Errno {
		if !within(day, 0, api.Year-1) {
			return api.ErrRange
		}
		if day <= before {
			return api.ErrOrder
		}
		before = day
		return api.OK
	})
}

// VolumesAt returns the volumes of all casks behind so many steps.
func VolumesAt(s api.ScaleSystem, step int) ([]int, api.Errno) {
	if _, e := CheckSystem(s); e != api.OK {
		return nil, e
	}
	if !within(step, 0, len(s.Steps)) {
		return nil, api.ErrRange
	}
	r := runOf(s)
	for _, a := range s.Steps[:step] {
		r.follow(a)
	}
	return r.volumes(), api.OK
}

// StartOf returns the state at the start of a system, with all wine of a source.
func StartOf(s api.ScaleSystem, source int) (api.ScaleState, api.Errno) {
	if e := checkSourced(s, source); e != api.OK {
		return api.ScaleState{}, e
	}
	total := 0
	casks := eachOf(s.Casks, func(v api.ScaleVessel) api.ScaleCask {
		total += v.Start
		return api.ScaleCask{Name: v.Name, Capacity: v.Capacity, Wine: pure(source, v.Start)}
	})
	return api.ScaleState{Casks: casks, In: pure(source, total), Sold: noWine(), Lost: noWine()}, api.OK
}

// ActsOf returns the steps of a system as acts, with a source for what is filled in.
func ActsOf(s api.ScaleSystem, source int) ([]api.ScaleAct, api.Errno) {
	if e := checkSourced(s, source); e != api.OK {
		return nil, e
	}
	return actsOf(s, source), api.OK
}

func checkSourced(s api.ScaleSystem, source int) api.Errno {
	if _, e := CheckSystem(s); e != api.OK {
		return e
	}
	if !isSource(source) {
		return api.ErrRange
	}
	return api.OK
}

func actsOf(s api.ScaleSystem, source int) []api.ScaleAct {
	return eachOf(s.Steps, func(a api.ScaleAct) api.ScaleAct {
		a = cloneAct(a)
		if a.Kind == api.ScaleFill {
			a.Source = source
		}
		return a
	})
}

// YearOf returns the acts of a year, day by day.
func YearOf(s api.ScaleSystem, vintage int) ([]api.ScaleDated, api.Errno) {
	if _, e := CheckSystem(s); e != api.OK {
		return nil, e
	}
	if !within(vintage, 0, api.MaxVintage) {
		return nil, api.ErrRange
	}
	var year []api.ScaleDated
	for _, day := range s.Days {
		for _, a := range actsOf(s, vintage) {
			year = append(year, api.ScaleDated{Day: day, Act: a})
		}
	}
	return year, api.OK
}

// Classic returns a classic system.
func Classic(c api.ScaleClassic) (api.ScaleSystem, api.Errno) {
	if !texts.IsName(c.Name) {
		return api.ScaleSystem{}, api.ErrName
	}
	if !within(c.Scales, 1, api.MaxScaleCasks) || !within(c.Casks, 1, api.MaxScaleCasks) || !within(c.Capacity, 1, api.MaxVolume) || !within(c.Draw, 1, c.Capacity) {
		return api.ScaleSystem{}, api.ErrRange
	}
	s := api.ScaleSystem{Name: c.Name, Casks: classicCasks(c), Days: c.Days, Steps: classicSteps(c)}
	if _, e := CheckSystem(s); e != api.OK {
		return api.ScaleSystem{}, e
	}
	s.Days = slices.Clone(c.Days)
	return s, api.OK
}

func classicName(scale, cask int) string {
	return "c" + strconv.Itoa(scale) + "-" + strconv.Itoa(cask)
}

func classicCasks(c api.ScaleClassic) []api.ScaleVessel {
	var l []api.ScaleVessel
	for scale := range c.Scales {
		for cask := range c.Casks {
			l = append(l, api.ScaleVessel{Name: classicName(scale, cask), Capacity: c.Capacity, Start: c.Capacity})
		}
	}
	return l
}

// classicSteps goes from the oldest scale up: each one is drawn from, and then filled from the next one, or with new wine.
func classicSteps(c api.ScaleClassic) []api.ScaleAct {
	var l []api.ScaleAct
	for cask := range c.Casks {
		l = append(l, api.ScaleAct{Kind: api.ScaleDraw, Casks: []string{classicName(0, cask)}, Volume: c.Draw})
	}
	for scale := range c.Scales {
		for cask := range c.Casks {
			l = append(l, classicFilling(c, scale, cask))
		}
		if c.Joined && c.Casks > 1 {
			l = append(l, classicJoin(c, scale))
		}
	}
	return l
}

// classicFilling is how a cask gets back what was drawn from it.
func classicFilling(c api.ScaleClassic, scale, cask int) api.ScaleAct {
	if scale == c.Scales-1 {
		return api.ScaleAct{Kind: api.ScaleFill, Casks: []string{classicName(scale, cask)}, Volume: c.Draw}
	}
	return api.ScaleAct{Kind: api.ScaleMove, Casks: []string{classicName(scale+1, cask), classicName(scale, cask)}, Volume: c.Draw}
}

func classicJoin(c api.ScaleClassic, scale int) api.ScaleAct {
	join := api.ScaleAct{Kind: api.ScaleJoin}
	for cask := range c.Casks {
		join.Casks = append(join.Casks, classicName(scale, cask))
	}
	return join
}
