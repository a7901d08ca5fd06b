package taste

import (
	"iter"
	"slices"

	"criadera/api"
	"criadera/checks"
)

// reached yields all classes that marks reach.
func (b book) reached() iter.Seq[found[int]] { return search(b.Begin, len(b.Marks), b.leads) }

// reachable is the numbers of all classes that marks reach, ascending.
func (b book) reachable() []int {
	var l []int
	for x := range b.reached() {
		l = append(l, x.place)
	}
	slices.Sort(l)
	return l
}

// Reachable returns all classes that some marks reach.
func Reachable(b api.TasteBook) ([]int, api.Errno) {
	checked, e := bookOf(b)
	if e != api.OK {
		return nil, e
	}
	return checked.reachable(), api.OK
}

// SheetTo returns the first marks that reach a class.
func SheetTo(b api.TasteBook, class int) ([]int, api.Errno) {
	checked, e := bookOf(b)
	if e := checks.First(e, checked.classError(class)); e != api.OK {
		return nil, e
	}
	marks, ok := first(checked.reached(), func(other int) bool { return other == class })
	return marks, checks.Unless(ok, api.ErrNone)
}

func (b book) isTrapped(class int) bool {
	_, leaves := first(b.from(class).reached(), func(other int) bool { return b.rank(other) != b.rank(class) })
	return !leaves
}

// Trapped returns all classes that are trapped.
func Trapped(b api.TasteBook) ([]int, api.Errno) {
	checked, e := bookOf(b)
	if e != api.OK {
		return nil, e
	}
	var l []int
	for class := range b.Classes {
		if checked.isTrapped(class) {
			l = append(l, class)
		}
	}
	return l, api.OK
}
