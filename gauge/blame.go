package gauge

import (
	"math/bits"
	"slices"

	"criadera/api"
	"criadera/checks"
)

// Without returns a book without some of its gaugings.
func Without(b api.GaugeBook, l []int) (api.GaugeBook, api.Errno) {
	_, e := CheckBook(b)
	if e := checks.First(e, checks.Chosen(l, len(b.Readings))); e != api.OK {
		return api.GaugeBook{}, e
	}
	readings := kept(b.Readings, func(n int) bool { return !slices.Contains(l, n) })
	return api.GaugeBook{Loss: b.Loss, Readings: readings, Moves: slices.Clone(b.Moves)}, api.OK
}

// CheckBlamed accepts gaugings without which no two contradict.
func CheckBlamed(b api.GaugeBook, l []int) api.Errno {
	rest, e := Without(b, l)
	if e != api.OK {
		return e
	}
	if (book{rest}).isContradictory() {
		return api.ErrProof
	}
	return api.OK
}

// Blamed returns the fewest gaugings without which no two contradict.
func Blamed(b api.GaugeBook) ([]int, api.Errno) {
	contradictions, e := Contradictions(b)
	if e != api.OK {
		return nil, e
	}
	suspects := membersOf(contradictions)
	if len(suspects) > api.MaxGaugeBlamed {
		return nil, api.ErrLarge
	}
	return fewest(suspects, contradictions), api.OK
}

// membersOf is all numbers of pairs, each one once, ascending.
func membersOf(pairs [][2]int) []int {
	var members []int
	for _, pair := range pairs {
		members = append(members, pair[:]...)
	}
	slices.Sort(members)
	return slices.Compact(members)
}

// fewest is the fewest suspects that leave no pair whole. A choice has a bit for each suspect, the first one's the highest, so that of choices of as many suspects the greatest number is the lexicographically first one.
func fewest(suspects []int, pairs [][2]int) []int {
	bit := func(n int) uint { return 1 << (len(suspects) - 1 - n) }
	var masks []uint
	for _, pair := range pairs {
		masks = append(masks, bit(slices.Index(suspects, pair[0]))|bit(slices.Index(suspects, pair[1])))
	}
	best := uint(1)<<len(suspects) - 1
	for choice := best; choice > 0; choice-- {
		if bits.OnesCount(choice) < bits.OnesCount(best) && hitsAll(choice, masks) {
			best = choice
		}
	}
	return kept(suspects, func(n int) bool { return best&bit(n) != 0 })
}

func hitsAll(choice uint, masks []uint) bool {
	for _, mask := range masks {
		if choice&mask == 0 {
			return false
		}
	}
	return true
}
