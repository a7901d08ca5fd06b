package certify

import (
	"slices"

	"criadera/api"
	"criadera/checks"
)

// CheckBook returns the first error of a book, and the number of its part, or of its entry (0 if none is named).
func CheckBook(b api.CertifyBook) (int, api.Errno) {
	if e := checks.First(
		checks.Unless(len(b.Parts) > 0, api.ErrShape),
		checks.Unless(len(b.Parts) <= api.MaxCertifyParts, api.ErrLarge)); e != api.OK {
		return 0, e
	}
	if n, e := checks.Each(len(b.Parts), func(n int) api.Errno { return partError(b.Parts[n], b.Parts[:n]) }); e != api.OK {
		return n, e
	}
	if len(b.Entries) > api.MaxCertifyEntries {
		return 0, api.ErrLarge
	}
	return checks.Each(len(b.Entries), func(n int) api.Errno { return entryError(b.Entries[n], b.Entries[:n], len(b.Parts)) })
}

func partError(p api.CertifyPart, earlier []api.CertifyPart) api.Errno {
	isThere := slices.ContainsFunc(earlier, func(other api.CertifyPart) bool { return other.Name == p.Name })
	return checks.First(
		checks.Name(p.Name),
		checks.Unless(!isThere, api.ErrExists),
		checks.Range(p.Age, api.MaxCertifyAge),
		checks.Range(p.Carbon, api.MaxCertifyCarbon))
}

func entryError(x api.CertifyEntry, earlier []api.CertifyEntry, parts int) api.Errno {
	return checks.First(
		checks.Name(x.Name),
		checks.Unless(!hasEntry(earlier, x.Name), api.ErrExists),
		checks.Unless(len(x.Coefs) == parts, api.ErrShape),
		checks.Numbers(x.Coefs, -api.MaxCertifyCoef, api.MaxCertifyCoef),
		checks.Number(x.Most, -api.MaxCertifyCoef, api.MaxCertifyCoef))
}

func hasEntry(l []api.CertifyEntry, name string) bool {
	return slices.ContainsFunc(l, func(x api.CertifyEntry) bool { return x.Name == name })
}

// A book is a checked one.
type book struct{ api.CertifyBook }

func bookOf(b api.CertifyBook) (book, api.Errno) {
	if _, e := CheckBook(b); e != api.OK {
		return book{}, e
	}
	return book{b}, api.OK
}

// askedOf checks a book, and what is asked of it.
func askedOf(b api.CertifyBook, a api.CertifyAsk) (book, api.Errno) {
	checked, e := bookOf(b)
	return checked, checks.First(e, CheckAsk(a))
}

// perPart is a number of each part.
func (b book) perPart(of func(p api.CertifyPart) int) []int {
	l := make([]int, 0, len(b.Parts))
	for _, p := range b.Parts {
		l = append(l, of(p))
	}
	return l
}

// worths is the worth of each part for what is asked.
func (b book) worths(a api.CertifyAsk) []int {
	return b.perPart(func(p api.CertifyPart) int {
		switch {
		case a.Kind == api.CertifyMean:
			return p.Age.Lo
		case p.Age.Lo >= a.Age:
			return 1
		}
		return 0
	})
}

// with is the book with these entries in the place of its own. It shares no memory with any of them.
func (b book) with(entries ...api.CertifyEntry) book {
	out := api.CertifyBook{Parts: slices.Clone(b.Parts)}
	for _, x := range entries {
		x.Coefs = slices.Clone(x.Coefs)
		out.Entries = append(out.Entries, x)
	}
	return book{out}
}

// only is the book with some of its entries.
func (b book) only(numbers []int) book {
	var entries []api.CertifyEntry
	for _, n := range numbers {
		entries = append(entries, b.Entries[n])
	}
	return b.with(entries...)
}

// Only returns a book with some of its entries alone.
func Only(b api.CertifyBook, entries []int) (api.CertifyBook, api.Errno) {
	checked, e := bookOf(b)
	if e := checks.First(e, checks.Chosen(entries, len(b.Entries))); e != api.OK {
		return api.CertifyBook{}, e
	}
	return checked.only(entries).CertifyBook, api.OK
}

// Joined returns the book with the entries of two books, one behind the other.
func Joined(a, b api.CertifyBook) (api.CertifyBook, api.Errno) {
	first, e := bookOf(a)
	_, f := CheckBook(b)
	if e := checks.First(e, f, checks.Unless(slices.Equal(a.Parts, b.Parts), api.ErrClash)); e != api.OK {
		return api.CertifyBook{}, e
	}
	return first.more(b.Entries...)
}

// more is the book with more entries behind its own.
func (b book) more(entries ...api.CertifyEntry) (api.CertifyBook, api.Errno) {
	isThere := slices.ContainsFunc(entries, func(x api.CertifyEntry) bool { return hasEntry(b.Entries, x.Name) })
	if e := checks.First(
		checks.Unless(!isThere, api.ErrExists),
		checks.Unless(len(b.Entries)+len(entries) <= api.MaxCertifyEntries, api.ErrFull)); e != api.OK {
		return api.CertifyBook{}, e
	}
	return b.with(slices.Concat(b.Entries, entries)...).CertifyBook, api.OK
}
