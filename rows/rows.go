// Package rows reckons with numbers side by side.
package rows

// ComesTo is what a row comes to: the sum of all numbers, each one as many times as the row tells.
func ComesTo(row, numbers []int) int {
	sum := 0
	for i, times := range row {
		sum += times * numbers[i]
	}
	return sum
}

// Opposites is the opposites of all numbers.
func Opposites(l []int) []int {
	out := make([]int, 0, len(l))
	for _, n := range l {
		out = append(out, -n)
	}
	return out
}
