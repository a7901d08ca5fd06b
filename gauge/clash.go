package gauge

import (
	"iter"
	"slices"

	"criadera/api"
	"criadera/checks"
	"criadera/ranges"
)

// pairs yields all pairs of gaugings of one cask, in their order.
func (b book) pairs() iter.Seq[[2]int] {
	return func(yield func(pair [2]int) bool) {
		for i, x := range b.Readings {
			for j := i + 1; j < len(b.Readings); j++ {
				if b.Readings[j].Cask == x.Cask && !yield([2]int{i, j}) {
					return
				}
			}
		}
	}
}

// expected is what the first gauging of a pair allows on the day of the second one.
func (b book) expected(pair [2]int) api.Range {
	return b.allowed(pair[0], b.Readings[pair[1]].Day)
}

func (b book) contradicts(pair [2]int) bool {
	gauged := thousandths(b.Readings[pair[1]].Volume, 0)
	return ranges.IsNothing(ranges.Common(b.expected(pair), gauged))
}

// contradictions yields all pairs that contradict.
func (b book) contradictions() iter.Seq[[2]int] {
	return func(yield func(pair [2]int) bool) {
		for pair := range b.pairs() {
			if b.contradicts(pair) && !yield(pair) {
				return
			}
		}
	}
}

// isContradictory tells whether any two gaugings contradict.
func (b book) isContradictory() bool {
	for range b.contradictions() {
		return true
	}
	return false
}

// pairError asks for two gaugings of one cask. Their days need no look: those of a right book ascend.
func (b book) pairError(pair [2]int) api.Errno {
	if e := checks.First(b.readingError(pair[0]), b.readingError(pair[1])); e != api.OK {
		return e
	}
	return checks.First(
		checks.Unless(b.Readings[pair[0]].Cask == b.Readings[pair[1]].Cask, api.ErrClash),
		checks.Unless(pair[0] < pair[1], api.ErrOrder))
}

// Contradicts returns whether two gaugings contradict.
func Contradicts(b api.GaugeBook, pair [2]int) (bool, api.Errno) {
	checked, e := bookOf(b)
	if e := checks.First(e, checked.pairError(pair)); e != api.OK {
		return false, e
	}
	return checked.contradicts(pair), api.OK
}

// Contradictions returns all pairs of gaugings that contradict.
func Contradictions(b api.GaugeBook) ([][2]int, api.Errno) {
	checked, e := bookOf(b)
	if e != api.OK {
		return nil, e
	}
	return slices.Collect(checked.contradictions()), api.OK
}

// Gone returns how much is gone between two gaugings, beside moves and losses.
func Gone(b api.GaugeBook, pair [2]int) (api.Range, api.Errno) {
	checked, e := bookOf(b)
	if e := checks.First(e, checked.pairError(pair)); e != api.OK {
		return api.Range{}, e
	}
	expected, gauged := told(checked.expected(pair)), b.Readings[pair[1]].Volume
	return api.Range{Lo: expected.Lo - gauged.Hi, Hi: expected.Hi - gauged.Lo}, api.OK
}
