package age

import (
	"criadera/api"
	"criadera/exact"
	"criadera/lowest"
)

// A cellar is the casks of a system at work. All amounts in it have one denominator, so that casks are mixed without looking for a common one at each step.
type cellar struct {
	*system
	den  exact.Nat
	vats []vat
}

// A vat is a cask at work: its volume, and how much of it is of each origin.
type vat struct {
	row
	volume int
}

// cellarOf begins with so much of each origin in each cask.
func cellarOf(c *system, begin []row) *cellar {
	w := &cellar{system: c, den: exact.Of(1)}
	for i, v := range c.Casks {
		w.vats = append(w.vats, vat{row: begin[i], volume: v.Start})
	}
	return w
}

// turn does the steps of a turn; what is filled in within it is of the origin fresh.
func (w *cellar) turn(fresh int) {
	for _, a := range w.Steps {
		switch a.Kind {
		case api.ScaleFill:
			w.fill(w.at[a.Casks[0]], a.Volume, fresh)
		case api.ScaleDraw:
			w.take(w.at[a.Casks[0]], a.Volume)
		case api.ScaleMove:
			taken := w.take(w.at[a.Casks[0]], a.Volume)
			w.put(w.at[a.Casks[1]], taken, a.Volume)
		case api.ScaleJoin:
			w.join(a.Casks)
		}
	}
	w.tighten()
}

func (w *cellar) fill(into, volume, fresh int) {
	filled := make(row, len(w.vats[into].row))
	filled[fresh] = w.den.Times(exact.Of(volume))
	w.put(into, filled, volume)
}

func (w *cellar) put(into int, more row, volume int) {
	v := &w.vats[into]
	v.row = v.plus(more)
	v.volume += volume
}

// take takes a volume, and returns what was in it.
func (w *cellar) take(from, volume int) row {
	v := &w.vats[from]
	divisor := lowest.Divisor(volume, v.volume)
	part, whole := volume/divisor, v.volume/divisor
	taken, left := v.times(exact.Of(part)), v.times(exact.Of(whole-part))
	w.widen(whole)
	v.row = left
	v.volume -= volume
	return taken
}

func (w *cellar) join(casks []string) {
	all := make(row, len(w.vats[0].row))
	total, divisor := 0, 0
	for _, name := range casks {
		v := w.vats[w.at[name]]
		all = all.plus(v.row)
		total += v.volume
		divisor = lowest.Divisor(divisor, v.volume)
	}
	if total == 0 {
		return
	}
	w.widen(total / divisor)
	for _, name := range casks {
		v := &w.vats[w.at[name]]
		v.row = all.times(exact.Of(v.volume / divisor))
	}
}

// widen makes the denominator so many times as large.
func (w *cellar) widen(n int) {
	times := exact.Of(n)
	w.den = w.den.Times(times)
	for i := range w.vats {
		w.vats[i].row = w.vats[i].times(times)
	}
}

// tighten makes the denominator as small as it can be.
func (w *cellar) tighten() {
	divisor := w.den
	for _, v := range w.vats {
		divisor = v.divisor(divisor)
	}
	w.den, _ = w.den.Over(divisor)
	for i := range w.vats {
		w.vats[i].row = w.vats[i].over(divisor)
	}
}
