// Package lowest brings numbers that belong together, as those of a fraction do, into lowest terms.
package lowest

// Divisor is the greatest number that divides all of them; 0 if all of them are 0.
func Divisor(l ...int) int {
	divisor := 0
	for _, n := range l {
		for n != 0 {
			divisor, n = n, divisor%n
		}
	}
	return max(divisor, -divisor)
}

// Terms is the numbers without what divides all of them.
func Terms(l ...int) []int {
	divisor := max(1, Divisor(l...))
	out := make([]int, 0, len(l))
	for _, n := range l {
		out = append(out, n/divisor)
	}
	return out
}

// Fraction is num / den in lowest terms, as two numbers; den is above 0.
func Fraction(num, den int) [2]int { return [2]int(Terms(num, den)) }
