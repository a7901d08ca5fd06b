// Package corners finds the numbers from 0 on that keep conditions and have the least worth. They lie at a corner of what the conditions permit, and weights of the conditions prove that nothing there is worth less.
package corners

import (
	"iter"

	"criadera/choices"
	"criadera/rows"
)

// A Task is what numbers must keep, and their worth. Each list comes to the sum of the numbers, each one so many times: One to 1, each of Planes to 0 at most, and Worth to as little as possible. All lists are equally long, and have one number at least. What the planes permit must not be worth less and less without end, and determinants of the lists must be small enough to be added up as ints.
type Task struct {
	One    []int
	Planes [][]int
	Worth  []int
}

// A Corner is the numbers Parts / Den, to which Worth comes to Value / Den, and the weights Weights / Den of the planes, from 0 on: for each number its Worth, and all planes so many times, are together at least Value / Den times its One.
type Corner struct {
	Den, Value     int
	Parts, Weights []int
}

// Least returns a corner of least worth, and whether there is one: otherwise no numbers keep the conditions. Of all corners of least worth there is one that has weights from 0 on.
func Least(t Task) (Corner, bool) {
	for s := range t.spots() {
		if weights, ok := t.weightsAt(s); ok {
			return Corner{Den: s.den, Value: rows.ComesTo(t.Worth, s.parts), Parts: s.parts, Weights: weights}, true
		}
	}
	return Corner{}, false
}

// A wall is a plane of the task, or one that keeps a number from being below 0, with its number among all of these.
type wall struct {
	number int
	row    []int
}

// walls is all planes, and behind them those that keep numbers from 0 on.
func (t Task) walls() []wall {
	var l []wall
	for _, row := range t.Planes {
		l = append(l, wall{len(l), row})
	}
	for i := range t.One {
		row := make([]int, len(t.One))
		row[i] = -1
		l = append(l, wall{len(l), row})
	}
	return l
}

// A spot is numbers that keep the conditions, and are the only ones on some walls. Turn is -1 if they are the opposites of what across gives for these walls, otherwise 1.
type spot struct {
	on    []wall
	parts []int
	den   int
	turn  int
}

// spots yields all spots, some of them several times, by walls on which they lie.
func (t Task) spots() iter.Seq[spot] {
	return func(yield func(s spot) bool) {
		walls := t.walls()
		for on := range choices.Of(walls, len(t.One)-1) {
			s := t.spotOn(on)
			if s.den > 0 && isBehind(walls, s.parts) && !yield(s) {
				return
			}
		}
	}
}

// spotOn is where walls meet. Its den is 0 if this is no single place.
func (t Task) spotOn(on []wall) spot {
	s := spot{on: on, parts: across(rowsOf(on)), turn: 1}
	s.den = rows.ComesTo(t.One, s.parts)
	if s.den < 0 {
		s.turn, s.den, s.parts = -1, -s.den, rows.Opposites(s.parts)
	}
	return s
}

// weightsAt is the weights of all planes at a spot, and whether they and those of walls in front of 0 are from 0 on. The weight of a wall is how much the worth rises on the way along all other walls of the spot: there One comes to 0, and the wall to less than 0 (to -den).
func (t Task) weightsAt(s spot) ([]int, bool) {
	weights := make([]int, len(t.Planes))
	for i, w := range s.on {
		along := rowsOf(s.on)
		along[i] = t.One
		rise := s.turn * rows.ComesTo(t.Worth, across(along))
		if rise < 0 {
			return nil, false
		}
		if w.number < len(t.Planes) {
			weights[w.number] = rise
		}
	}
	return weights, true
}

func rowsOf(l []wall) [][]int {
	out := make([][]int, 0, len(l))
	for _, w := range l {
		out = append(out, w.row)
	}
	return out
}

func isBehind(l []wall, parts []int) bool {
	for _, w := range l {
		if rows.ComesTo(w.row, parts) > 0 {
			return false
		}
	}
	return true
}

// across is numbers, one more than there are rows, for which each row comes to 0. Another row comes to the determinant of it and these rows behind it.
func across(l [][]int) []int {
	parts := make([]int, len(l)+1)
	all := uint(1)<<len(parts) - 1
	sign := 1
	for i := range parts {
		parts[i] = sign * determinant(l, all&^(1<<i))
		sign = -sign
	}
	return parts
}

// determinant is that of rows in the columns that have a bit, of which there are as many as rows.
func determinant(l [][]int, columns uint) int {
	if len(l) == 0 {
		return 1
	}
	sum, sign := 0, 1
	for i, x := range l[0] {
		column := uint(1) << i
		if columns&column == 0 {
			continue
		}
		if x != 0 {
			sum += sign * x * determinant(l[1:], columns&^column)
		}
		sign = -sign
	}
	return sum
}
