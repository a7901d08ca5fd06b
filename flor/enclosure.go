package flor

import "criadera/api"

// floor is num / den, rounded down; den is above 0.
func floor(num, den int) int {
	n := num / den
	if num%den < 0 {
		n--
	}
	return n
}

// ceiling is num / den, rounded up; den is above 0.
func ceiling(num, den int) int { return -floor(-num, den) }

// exactly is the range of one number.
func exactly(n int) api.Range { return api.Range{Lo: n, Hi: n} }

// scaled is the range r times num / den, in whole numbers around it: no number in it is below 0, and none of den is 0.
func scaled(r, num, den api.Range) api.Range {
	return api.Range{Lo: floor(r.Lo*num.Lo, den.Hi), Hi: ceiling(r.Hi*num.Hi, den.Lo)}
}

// common is what two ranges have in common. Its least number is greater than its greatest one if this is nothing.
func common(a, b api.Range) api.Range {
	return api.Range{Lo: max(a.Lo, b.Lo), Hi: min(a.Hi, b.Hi)}
}

func isNothing(r api.Range) bool { return r.Lo > r.Hi }

func isWithin(r, bounds api.Range) bool { return bounds.Lo <= r.Lo && r.Hi <= bounds.Hi }

// A bound is a range, and another one within which it should lie.
type bound struct{ told, within api.Range }

// answer tells whether ranges lie within their bounds, whichever of their numbers are the true ones.
func answer(l ...bound) int {
	known := api.AnswerYes
	for _, b := range l {
		switch {
		case isNothing(common(b.told, b.within)):
			return api.AnswerNo
		case !isWithin(b.told, b.within):
			known = api.AnswerMaybe
		}
	}
	return known
}
