package age

import (
	"criadera/api"
	"criadera/exact"
)

// isFilled asks for a system into which wine is filled, so that as much of it is sold.
func isFilled(c *system) api.Errno {
	if c.filled == 0 {
		return api.ErrNone
	}
	return api.OK
}

// SoldAges returns the shares of each age, and of the old wine, in what is sold in the last turn.
func SoldAges(s api.ScaleSystem, turns int) ([]api.Range, api.Errno) {
	return asked(s, conditions{areTurns(turns), isFilled}, func(c *system) ([]api.Range, api.Errno) {
		h := c.powered(turns - 1)
		whole := h.den.Times(exact.Of(c.Den)).Times(exact.Of(c.filled))
		return sharesOf(h.sold(), whole), api.OK
	})
}

// sold is what is sold in the turn behind a history, of each age and of the old wine, times both denominators.
func (h *history) sold() row {
	fresh := exact.Of(h.filled).Times(exact.Of(h.Den)).Minus(rowOf(h.New).sum())
	out := row{fresh.Times(h.den)}
	shares := make([]int, len(h.Casks))
	for cask := range h.Casks {
		shares[cask] = h.soldOf(cask)
	}
	for age := range h.amounts[0] {
		inCasks := make(row, 0, len(h.amounts))
		for _, amounts := range h.amounts {
			inCasks = append(inCasks, amounts[age])
		}
		out = append(out, inCasks.against(shares))
	}
	return out
}
