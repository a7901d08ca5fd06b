// Package choices yields all choices of some elements of a list.
package choices

import (
	"iter"
	"slices"
)

// Of yields all choices of so many elements (from 0 on), each one in the order of the list, lexicographically by the elements' places. Each choice is a list of its own.
func Of[T any](l []T, size int) iter.Seq[[]T] {
	return func(yield func(choice []T) bool) { extend(nil, l, size, yield) }
}

// extend yields what is taken already with each choice of the rest behind it, and tells whether more is wanted.
func extend[T any](taken, rest []T, size int, yield func(choice []T) bool) bool {
	if size == 0 {
		return yield(slices.Clone(taken))
	}
	for i := range len(rest) - size + 1 {
		if !extend(append(taken, rest[i]), rest[i+1:], size-1, yield) {
			return false
		}
	}
	return true
}
