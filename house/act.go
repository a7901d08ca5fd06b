package house

import (
	"slices"

	"criadera/api"
	"criadera/checks"
	"criadera/scale"
)

// An act changes the wine in casks.
type act struct{ api.ScaleAct }

func (a act) do(b *book) api.Errno {
	wine, e := scale.Apply(b.Wine, a.ScaleAct)
	if e := checks.First(checks.Unless(!slices.ContainsFunc(a.Casks, b.isSealed), api.ErrBusy), e); e != api.OK {
		return e
	}
	b.Wine = wine
	b.note(a.ScaleAct)
	return api.OK
}

// note notes what an act is beside the wine that it changes: a move, a loss, a draw for which duty is due.
func (b *book) note(a api.ScaleAct) {
	switch a.Kind {
	case api.ScaleFill:
		b.noteMove("", a.Casks[0], a.Volume)
	case api.ScaleDraw:
		b.noteMove(a.Casks[0], "", a.Volume)
		b.Due += a.Volume * b.Rate
	case api.ScaleMove:
		b.noteMove(a.Casks[0], a.Casks[1], a.Volume)
	case api.ScaleLose:
		b.Lost = append(b.Lost, api.HouseLost{Day: b.Day, Cask: a.Casks[0], Volume: a.Volume})
	}
}

func (b *book) noteMove(from, to string, volume int) {
	b.Moves = append(b.Moves, api.GaugeMove{Day: b.Day, From: from, To: to, Volume: volume})
}

// cask is the cask of a name, or the error if there is none.
func (b *book) cask(name string) (api.ScaleCask, api.Errno) {
	n := slices.IndexFunc(b.Wine.Casks, func(c api.ScaleCask) bool { return c.Name == name })
	if n < 0 {
		return api.ScaleCask{}, api.ErrMissing
	}
	return b.Wine.Casks[n], api.OK
}

func (b *book) caskError(name string) api.Errno {
	_, e := b.cask(name)
	return e
}

func (b *book) isSealed(cask string) bool { return slices.Contains(b.Sealed, cask) }
