// Package ranges is what chapters that enclose true numbers do with the ends of ranges.
package ranges

import "criadera/api"

// Floor is num / den, rounded down; den is above 0.
func Floor(num, den int) int {
	n := num / den
	if num%den < 0 {
		n--
	}
	return n
}

// Ceiling is num / den, rounded up; den is above 0.
func Ceiling(num, den int) int { return -Floor(-num, den) }

// Over is a range divided by den, which is above 0, in whole numbers around it.
func Over(r api.Range, den int) api.Range {
	return api.Range{Lo: Floor(r.Lo, den), Hi: Ceiling(r.Hi, den)}
}

// Common is what two ranges have in common. Its least number is greater than its greatest one if this is nothing.
func Common(a, b api.Range) api.Range {
	return api.Range{Lo: max(a.Lo, b.Lo), Hi: min(a.Hi, b.Hi)}
}

// IsNothing tells whether there is no number in what ranges have in common.
func IsNothing(r api.Range) bool { return r.Lo > r.Hi }
