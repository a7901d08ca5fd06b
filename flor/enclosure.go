package flor

import (
	"criadera/api"
	"criadera/ranges"
)

// exactly is the range of one number.
func exactly(n int) api.Range { return api.Range{Lo: n, Hi: n} }

// scaled is the range r times num / den, in whole numbers around it: no number in it is below 0, and none of den is 0.
func scaled(r, num, den api.Range) api.Range {
	return api.Range{Lo: ranges.Floor(r.Lo*num.Lo, den.Hi), Hi: ranges.Ceiling(r.Hi*num.Hi, den.Lo)}
}

func isWithin(r, bounds api.Range) bool { return bounds.Lo <= r.Lo && r.Hi <= bounds.Hi }

// A bound is a range, and another one within which it should lie.
type bound struct{ told, within api.Range }

// answer tells whether ranges lie within their bounds, whichever of their numbers are the true ones.
func answer(l ...bound) int {
	known := api.AnswerYes
	for _, b := range l {
		switch {
		case ranges.IsNothing(ranges.Common(b.told, b.within)):
			return api.AnswerNo
		case !isWithin(b.told, b.within):
			known = api.AnswerMaybe
		}
	}
	return known
}
