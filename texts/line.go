package texts

import (
	"slices"
	"strconv"
	"strings"
)

// Line is words and numbers behind them, with single blanks between.
func Line(words []string, numbers ...int) string {
	all := slices.Clone(words)
	for _, n := range numbers {
		all = append(all, strconv.Itoa(n))
	}
	return strings.Join(all, " ")
}

// Numbers reads words that are so many numbers, as Signed does.
func Numbers(words []string, count, digits int) ([]int, bool) {
	if len(words) != count {
		return nil, false
	}
	l := make([]int, 0, count)
	for _, word := range words {
		n, ok := Signed(word, digits)
		if !ok {
			return nil, false
		}
		l = append(l, n)
	}
	return l, true
}

// WordAndNumbers reads a line of a word, whatever it is, and so many numbers.
func WordAndNumbers(s string, count, digits int) (string, []int, bool) {
	words := strings.Split(s, " ")
	l, ok := Numbers(words[1:], count, digits)
	if !ok || words[0] == "" {
		return "", nil, false
	}
	return words[0], l, true
}
