package age

import (
	"criadera/api"
	"criadera/exact"
)

// A history is how much of each age, from 0 on, and at last of the old wine, lies in each cask behind some turns.
type history struct {
	*system
	den     exact.Nat
	amounts []row // of each cask
}

// replayed does the steps of all turns, one behind the other.
func (c *system) replayed(turns int) history {
	begin := make([]row, len(c.Casks))
	for i, v := range c.Casks {
		begin[i] = make(row, turns+1)
		begin[i][turns] = exact.Of(v.Start)
	}
	w := cellarOf(c, begin)
	for turn := range turns {
		w.turn(turns - 1 - turn)
	}
	h := history{system: c, den: w.den}
	for _, v := range w.vats {
		h.amounts = append(h.amounts, v.row)
	}
	return h
}

// powered puts powers of the matrix to the new wine and to the old one. The turns may be 0 here.
func (c *system) powered(turns int) history {
	h := history{system: c, amounts: make([]row, len(c.Casks))}
	power := make([]exact.Nat, turns+1)
	power[0] = exact.Of(1)
	for n := range turns {
		power[n+1] = power[n].Times(exact.Of(c.Den))
	}
	h.den = power[turns]
	amounts := rowOf(c.New)
	for age := range turns {
		h.add(amounts.times(power[turns-1-age]))
		amounts = c.turned(amounts)
	}
	old, _ := c.turnedBy(rowOf(c.starts()), turns)
	h.add(old)
	return h
}

// add puts the amounts that all casks have of a further age behind the others.
func (h *history) add(amounts row) {
	for cask, amount := range amounts {
		h.amounts[cask] = append(h.amounts[cask], amount)
	}
}

// whole is all wine of a cask, as amounts are told.
func (h *history) whole(cask int) exact.Nat { return h.den.Times(exact.Of(h.Casks[cask].Start)) }

// atLeast is the amount of at least an age in a cask.
func (h *history) atLeast(cask, age int) exact.Nat { return h.amounts[cask][age:].sum() }

// shares is the shares of all casks.
func (h *history) shares() [][]api.Range {
	out := make([][]api.Range, len(h.amounts))
	for cask, amounts := range h.amounts {
		if h.Casks[cask].Start > 0 {
			out[cask] = sharesOf(amounts, h.whole(cask))
		}
	}
	return out
}

// sharesOf is amounts as shares of a whole.
func sharesOf(amounts row, whole exact.Nat) []api.Range {
	l := make([]api.Range, 0, len(amounts))
	for _, amount := range amounts {
		l = append(l, shareOf(amount, whole))
	}
	return l
}

// shareOf is a share in parts of Unit.
func shareOf(amount, whole exact.Nat) api.Range {
	return enclosed(amount.Times(exact.Of(api.Unit)), whole)
}

// ByReplay returns the shares of each cask, by replaying the steps of each turn.
func ByReplay(s api.ScaleSystem, turns int) ([][]api.Range, api.Errno) {
	return asked(s, conditions{areTurns(turns)}, func(c *system) ([][]api.Range, api.Errno) {
		h := c.replayed(turns)
		return h.shares(), api.OK
	})
}

// ByPowers returns the shares of each cask, by powers of the matrix.
func ByPowers(s api.ScaleSystem, turns int) ([][]api.Range, api.Errno) {
	return asked(s, conditions{areTurns(turns)}, func(c *system) ([][]api.Range, api.Errno) {
		h := c.powered(turns)
		return h.shares(), api.OK
	})
}
