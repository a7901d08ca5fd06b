package taste

import (
	"slices"

	"criadera/api"
	"criadera/checks"
)

// A pair is two rule books with the same marks.
type pair struct{ one, other book }

// leads is the classes to which a mark leads from a class of each book.
func (p pair) leads(classes [2]int, mark int) [2]int {
	return [2]int{p.one.leads(classes[0], mark), p.other.leads(classes[1], mark)}
}

// differ tells whether a class of each book have different ranks.
func (p pair) differ(classes [2]int) bool { return p.one.rank(classes[0]) != p.other.rank(classes[1]) }

// apart is the first marks that tell the books apart, if any do.
func (p pair) apart() ([]int, bool) {
	begin := [2]int{p.one.Begin, p.other.Begin}
	return first(search(begin, len(p.one.Marks), p.leads), p.differ)
}

// Distinguish returns the first marks by which classes of different ranks are reached in two rule books.
func Distinguish(a, b api.TasteBook) ([]int, api.Errno) {
	one, e := bookOf(a)
	other, f := bookOf(b)
	if e := checks.First(e, f, checks.Unless(slices.Equal(a.Marks, b.Marks), api.ErrClash)); e != api.OK {
		return nil, e
	}
	marks, ok := pair{one, other}.apart()
	return marks, checks.Unless(ok, api.ErrNone)
}

// areAlike tells whether two classes are alike.
func (b book) areAlike(class, other int) bool {
	_, areApart := pair{b.from(class), b.from(other)}.apart()
	return !areApart
}

// alike is the sets of alike classes, in the order of their first ones. All of a set are like its first class.
func (b book) alike() [][]int {
	var sets [][]int
	for class := range b.Classes {
		n := slices.IndexFunc(sets, func(set []int) bool { return b.areAlike(set[0], class) })
		if n < 0 {
			sets = append(sets, []int{class})
			continue
		}
		sets[n] = append(sets[n], class)
	}
	return sets
}

// Alike returns the sets of alike classes.
func Alike(b api.TasteBook) ([][]int, api.Errno) {
	checked, e := bookOf(b)
	if e != api.OK {
		return nil, e
	}
	return checked.alike(), api.OK
}
