package scale

import "criadera/api"

// A cellar is a state at work, which it does not share with anybody. Its rack finds casks by their names, and knows their volumes.
type cellar struct {
	api.ScaleState
	rack
}

// cellarOf opens a cellar for a right state.
func cellarOf(s api.ScaleState) *cellar {
	return &cellar{ScaleState: cloneState(s), rack: rackOf(s.Casks, func(c api.ScaleCask) (string, vat) {
		return c.Name, vat{capacity: c.Capacity, volume: volumeOf(c.Wine)}
	})}
}

// Apply returns the state behind an act.
func Apply(s api.ScaleState, a api.ScaleAct) (api.ScaleState, api.Errno) {
	if _, e := CheckState(s); e != api.OK {
		return api.ScaleState{}, e
	}
	c := cellarOf(s)
	if e := c.do(a); e != api.OK {
		return api.ScaleState{}, e
	}
	return c.ScaleState, api.OK
}

// TakenBy returns the wine that an act takes from its cask.
func TakenBy(s api.ScaleState, a api.ScaleAct) (api.ScaleWine, api.Errno) {
	if _, e := Apply(s, a); e != api.OK {
		return api.ScaleWine{}, e
	}
	if !kinds[a.Kind].takes {
		return api.ScaleWine{}, api.ErrKind
	}
	return Part(*cellarOf(s).wine(a.Casks[0]), a.Volume)
}

// Replay returns the state behind acts, one after the other, or the number of the first one with an error.
func Replay(s api.ScaleState, l []api.ScaleAct) (api.ScaleState, int, api.Errno) {
	if _, e := CheckState(s); e != api.OK {
		return api.ScaleState{}, 0, e
	}
	if len(l) > api.MaxScaleActs {
		return api.ScaleState{}, 0, api.ErrLarge
	}
	c := cellarOf(s)
	if n, e := firstWrong(l, c.do); e != api.OK {
		return api.ScaleState{}, n, e
	}
	return c.ScaleState, 0, api.OK
}

// do does an act. Behind an error the cellar is of no use any more.
func (c *cellar) do(a api.ScaleAct) api.Errno {
	if e := CheckAct(a); e != api.OK {
		return e
	}
	if e := c.refused(a); e != api.OK {
		return e
	}
	e := c.change(a)
	c.follow(a)
	return e
}

// change does to the wine what an act does; the volumes are still those ahead of it.
func (c *cellar) change(a api.ScaleAct) api.Errno {
	switch a.Kind {
	case api.ScaleAdd:
		c.Casks = append(c.Casks, api.ScaleCask{Name: a.Casks[0], Capacity: a.Volume, Wine: noWine()})
		return api.OK
	case api.ScaleFill:
		return c.fill(a)
	case api.ScaleDraw:
		return c.take(a, &c.Sold)
	case api.ScaleMove:
		return c.take(a, c.wine(a.Casks[1]))
	case api.ScaleLose:
		return c.take(a, &c.Lost)
	}
	return c.join(a.Casks)
}

func (c *cellar) wine(cask string) *api.ScaleWine { return &c.Casks[c.at[cask]].Wine }

func (c *cellar) fill(a api.ScaleAct) api.Errno {
	wine := loosened(pure(a.Source, a.Volume))
	if e := pour(c.wine(a.Casks[0]), wine); e != api.OK {
		return e
	}
	return pour(&c.In, wine)
}

func (c *cellar) take(a api.ScaleAct, into *api.ScaleWine) api.Errno {
	from, volume := c.wine(a.Casks[0]), c.first(a).volume
	whole := loosened(*from)
	if e := put(from, whole.part(volume-a.Volume, volume)); e != api.OK {
		return e
	}
	return pour(into, whole.part(a.Volume, volume))
}

func (c *cellar) join(casks []string) api.Errno {
	total := 0
	for _, name := range casks {
		total += c.vats[c.at[name]].volume
	}
	all := mixture(eachOf(casks, func(name string) api.ScaleWine { return *c.wine(name) }))
	_, e := firstWrong(casks, func(name string) api.Errno {
		return put(c.wine(name), all.part(c.vats[c.at[name]].volume, total))
	})
	return e
}

// put makes a wine what is told, unless it is too large.
func put(w *api.ScaleWine, what loose) api.Errno {
	tight, e := what.tightened()
	if e == api.OK {
		*w = tight
	}
	return e
}

// pour puts more wine to a wine.
func pour(w *api.ScaleWine, more loose) api.Errno { return put(w, loosened(*w).mixed(more)) }
