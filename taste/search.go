package taste

import (
	"iter"
	"slices"
)

// A found is what a search found, and the first marks that lead there.
type found[P comparable] struct {
	place P
	marks []int
}

// search yields all that so many marks lead to from a beginning, each place once, in the order of the first marks that lead there: places are looked at in this order, and so whatever leads to a further one first does so by its first marks.
func search[P comparable](begin P, marks int, leads func(place P, mark int) P) iter.Seq[found[P]] {
	return func(yield func(x found[P]) bool) {
		known := map[P]bool{begin: true}
		queue := []found[P]{{place: begin}}
		for n := 0; n < len(queue); n++ {
			x := queue[n]
			if !yield(x) {
				return
			}
			for mark := range marks {
				if place := leads(x.place, mark); !known[place] {
					known[place] = true
					queue = append(queue, found[P]{place: place, marks: slices.Concat(x.marks, []int{mark})})
				}
			}
		}
	}
}

// first is the first marks that lead to such a place, if any do.
func first[P comparable](all iter.Seq[found[P]], isSuch func(place P) bool) ([]int, bool) {
	for x := range all {
		if isSuch(x.place) {
			return x.marks, true
		}
	}
	return nil, false
}
