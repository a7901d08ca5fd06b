package house

import (
	"slices"
	"strings"

	"criadera/api"
	"criadera/checks"
)

// A book is what a log comes to in a house, entry by entry.
type book struct {
	api.House
	api.HouseState
}

// opened is the book of a log, or the number of the first wrong entry and its error.
func opened(h api.House, log []api.HouseEntry) (*book, int, api.Errno) {
	_, e := CheckHouse(h)
	if e := checks.First(e, checks.Unless(len(log) <= api.MaxHouseLog, api.ErrLarge)); e != api.OK {
		return nil, 0, e
	}
	none := api.ScaleWine{Den: 1}
	b := &book{House: h, HouseState: api.HouseState{Wine: api.ScaleState{In: none, Sold: none, Lost: none}}}
	if n, e := checks.Each(len(log), func(n int) api.Errno { return b.enter(log[n]) }); e != api.OK {
		return nil, n, e
	}
	return b, 0, api.OK
}

// asked is what is asked of the book of a log.
func asked[T any](h api.House, log []api.HouseEntry, of func(b *book) (T, api.Errno)) (T, api.Errno) {
	b, _, e := opened(h, log)
	if e != api.OK {
		var none T
		return none, e
	}
	return of(b)
}

// enter does what an entry tells. Behind an error the book is of no use any more.
func (b *book) enter(x api.HouseEntry) api.Errno {
	d, e := b.read(x)
	if e != api.OK {
		return e
	}
	return d.do(b)
}

// read is what an entry does, if its person may do so.
func (b *book) read(x api.HouseEntry) (deed, api.Errno) {
	words, isFormed := wordsOf(x.Text)
	k, isKind := kindOf(words[0])
	person := numberOf(x.By, b.People)
	if e := checks.First(
		checks.Unless(person >= 0, api.ErrMissing),
		checks.Unless(len(x.Text) <= api.MaxHouseText, api.ErrLarge),
		checks.Unless(isKind, api.ErrSyntax)); e != api.OK {
		return nil, e
	}
	if e := checks.First(
		checks.Unless(b.People[person].Role >= k.role, api.ErrAllowed),
		checks.Unless(isFormed, api.ErrSyntax)); e != api.OK {
		return nil, e
	}
	return k.read(words)
}

// wordsOf is the words of a text, one at least, and whether the text may have a form at all.
func wordsOf(text string) ([]string, bool) {
	words := strings.Split(text, " ")
	return words, !slices.Contains(words, "") && !strings.Contains(text, "\n")
}

// CheckLog returns the first error of a house and of a log, and the number of the wrong entry (0 if none is named).
func CheckLog(h api.House, log []api.HouseEntry) (int, api.Errno) {
	_, n, e := opened(h, log)
	return n, e
}

// StateOf returns what a log comes to.
func StateOf(h api.House, log []api.HouseEntry) (api.HouseState, api.Errno) {
	return asked(h, log, func(b *book) (api.HouseState, api.Errno) { return b.HouseState, api.OK })
}

// Accept returns a log with one more entry.
func Accept(h api.House, log []api.HouseEntry, x api.HouseEntry) ([]api.HouseEntry, api.Errno) {
	return asked(h, log, func(b *book) ([]api.HouseEntry, api.Errno) {
		if e := checks.First(checks.Unless(len(log) < api.MaxHouseLog, api.ErrFull), b.enter(x)); e != api.OK {
			return nil, e
		}
		return slices.Concat(log, []api.HouseEntry{x}), api.OK
	})
}
