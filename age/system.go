package age

import (
	"criadera/api"
	"criadera/exact"
	"criadera/scale"
)

// A system is a checked one: what was told, and its matrix.
type system struct {
	api.ScaleSystem
	api.AgeMatrix
	at     map[string]int // the numbers of casks by their names
	filled int            // how much is filled in within a turn
}

// systemOf checks a system.
func systemOf(s api.ScaleSystem) (*system, api.Errno) {
	if _, e := scale.CheckSystem(s); e != api.OK {
		return nil, e
	}
	c := &system{ScaleSystem: s, at: map[string]int{}}
	for i, v := range s.Casks {
		c.at[v.Name] = i
	}
	for _, a := range s.Steps {
		if a.Kind == api.ScaleFill {
			c.filled += a.Volume
		}
	}
	m, e := c.matrix()
	c.AgeMatrix = m
	return c, e
}

// matrix follows a decilitre of each cask through a turn, each one an origin of its own, with the new wine behind them.
func (c *system) matrix() (api.AgeMatrix, api.Errno) {
	n := len(c.Casks)
	begin := make([]row, n)
	for i, v := range c.Casks {
		begin[i] = make(row, n+1)
		if v.Start > 0 {
			begin[i][i] = exact.Of(1)
		}
	}
	w := cellarOf(c, begin)
	w.turn(n)
	den, ok := w.den.Int()
	if !ok || den > api.MaxAgeDen {
		return api.AgeMatrix{}, api.ErrLarge
	}
	m := api.AgeMatrix{Den: den}
	for _, v := range w.vats {
		numbers := v.ints()
		m.Rows = append(m.Rows, numbers[:n:n])
		m.New = append(m.New, numbers[n])
	}
	return m, api.OK
}

// starts is the volumes of the start.
func (c *system) starts() []int {
	l := make([]int, 0, len(c.Casks))
	for _, v := range c.Casks {
		l = append(l, v.Start)
	}
	return l
}

// turned is what becomes of amounts in all casks within a turn, times the denominator of the matrix.
func (c *system) turned(l row) row {
	out := make(row, 0, len(l))
	for _, shares := range c.Rows {
		out = append(out, l.against(shares))
	}
	return out
}

// turnedBy is turned so many times over, with the denominator that this brings.
func (c *system) turnedBy(l row, turns int) (row, exact.Nat) {
	den := exact.Of(1)
	for range turns {
		l, den = c.turned(l), den.Times(exact.Of(c.Den))
	}
	return l, den
}

// goes tells whether wine goes from a cask to another one.
func (c *system) goes(from, to int) bool { return c.Rows[to][from] > 0 }

// soldOf is how much of a decilitre in a cask is sold in a turn, times the denominator of the matrix.
func (c *system) soldOf(cask int) int {
	if c.Casks[cask].Start == 0 {
		return 0
	}
	left := c.Den
	for to := range c.Casks {
		left -= c.Rows[to][cask]
	}
	return left
}

// MatrixOf returns the matrix of a system, the new wine, and their least common denominator.
func MatrixOf(s api.ScaleSystem) (api.AgeMatrix, api.Errno) {
	return asked(s, nil, func(c *system) (api.AgeMatrix, api.Errno) { return c.AgeMatrix, api.OK })
}

// Entry returns a number of a power of the matrix, in parts of Unit.
func Entry(s api.ScaleSystem, turns int, at [2]int) (api.Range, api.Errno) {
	return asked(s, conditions{areTurns(turns), isCask(at[0]), isCask(at[1])}, func(c *system) (api.Range, api.Errno) {
		decilitre := make(row, len(c.Casks))
		decilitre[at[1]] = exact.Of(1)
		column, den := c.turnedBy(decilitre, turns)
		return enclosed(column[at[0]].Times(exact.Of(api.Unit)), den), api.OK
	})
}
