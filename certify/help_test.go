package certify

import (
	"fmt"
	"math"
	"slices"
	"testing"

	"criadera/api"
)

// want compares a value and an error. A nil list and an empty one are printed alike.
func want[T any](t *testing.T, what string, got T, e api.Errno, value T, f api.Errno) {
	t.Helper()
	if fmt.Sprintf("%+v", got) != fmt.Sprintf("%+v", value) || e != f {
		t.Errorf("%s: %+v, %d, want %+v, %d", what, got, e, value, f)
	}
}

// refused asks for an error, and for nothing beside it.
func refused[T any](t *testing.T, what string, got T, e api.Errno, f api.Errno) {
	t.Helper()
	var none T
	want(t, what, got, e, none, f)
}

// from is a range.
func from(lo, hi int) api.Range { return api.Range{Lo: lo, Hi: hi} }

// part is a part of a wine, entry an entry of a book.
func part(name string, age, carbon api.Range) api.CertifyPart {
	return api.CertifyPart{Name: name, Age: age, Carbon: carbon}
}

func entry(name string, most int, coefs ...int) api.CertifyEntry {
	return api.CertifyEntry{Name: name, Most: most, Coefs: coefs}
}

// oldParts is the parts of the chapter's examples.
func oldParts() []api.CertifyPart {
	return []api.CertifyPart{part("a", from(10, 12), from(5, 6)), part("b", from(50, 60), from(1, 2))}
}

// oldWith is the book of the chapter's examples with such entries.
func oldWith(entries ...api.CertifyEntry) api.CertifyBook {
	return api.CertifyBook{Parts: oldParts(), Entries: entries}
}

// half and few are the entries of the chapter's examples.
func half() api.CertifyEntry { return entry("half", -1, 0, -2) }

func few() api.CertifyEntry { return entry("few", 0, 0, 2) }

// old is the book of the chapter's examples, clashing the one that permits no mix.
func old() api.CertifyBook { return oldWith(half()) }

func clashing() api.CertifyBook { return oldWith(half(), few()) }

// alone is a book of one part.
func alone(entries ...api.CertifyEntry) api.CertifyBook {
	return api.CertifyBook{Parts: oldParts()[:1], Entries: entries}
}

// partsOf is so many parts, entriesOf so many entries of a book of two parts.
func partsOf(count int) []api.CertifyPart {
	var l []api.CertifyPart
	for n := range count {
		l = append(l, part(fmt.Sprint("p", n), from(n, n), from(n, n)))
	}
	return l
}

func entriesOf(count int) []api.CertifyEntry {
	var l []api.CertifyEntry
	for n := range count {
		l = append(l, entry(fmt.Sprint("e", n), 5, 1, 2))
	}
	return l
}

func mix(den int, parts ...int) api.CertifyMix { return api.CertifyMix{Den: den, Parts: parts} }

func proof(den, level int, weights ...int) api.CertifyProof {
	return api.CertifyProof{Den: den, Level: level, Weights: weights}
}

// mean asks for the mean age, share for the share that is at least so old.
func mean() api.CertifyAsk { return api.CertifyAsk{} }

func share(age int) api.CertifyAsk { return api.CertifyAsk{Kind: api.CertifyShare, Age: age} }

// certificate is a right one of the book old.
func certificate() api.CertifyCertificate {
	return api.CertifyCertificate{Name: "old1", Value: 30, Proof: proof(1, 10, 20)}
}

// copied is a book that shares no memory with another one.
func copied(b api.CertifyBook) api.CertifyBook {
	b.Parts, b.Entries = slices.Clone(b.Parts), slices.Clone(b.Entries)
	for n := range b.Entries {
		b.Entries[n].Coefs = slices.Clone(b.Entries[n].Coefs)
	}
	return b
}

// outside is numbers that are not from least to most.
func outside(least, most int) []int {
	return []int{least - 1, most + 1, math.MinInt, math.MaxInt}
}

// wrongNames is texts that are no names; "" is one of them.
func wrongNames() []string { return []string{"", "9a", "abcdefghijklm", "a b", "ä", "a_"} }

// A wrongRange has an error.
type wrongRange struct {
	r api.Range
	e api.Errno
}

// wrongRanges is ranges with errors, some of them with several, of a greatest number.
func wrongRanges(most int) []wrongRange {
	return []wrongRange{
		{from(-1, 1), api.ErrRange},
		{from(1, -1), api.ErrRange},
		{from(0, most+1), api.ErrRange},
		{from(most+1, most), api.ErrRange},
		{from(math.MinInt, math.MaxInt), api.ErrRange},
		{from(math.MaxInt, math.MinInt), api.ErrRange},
		{from(1, 0), api.ErrOrder},
		{from(most, most-1), api.ErrOrder},
	}
}

// wrongBooks is books with errors.
func wrongBooks() map[api.Errno]api.CertifyBook {
	return map[api.Errno]api.CertifyBook{
		api.ErrShape:  {},
		api.ErrLarge:  {Parts: partsOf(6)},
		api.ErrName:   {Parts: []api.CertifyPart{part("", from(-1, 0), from(0, 0))}},
		api.ErrExists: oldWith(half(), half()),
		api.ErrRange:  oldWith(entry("x", 21, 0, 0)),
		api.ErrOrder:  {Parts: []api.CertifyPart{part("a", from(1, 0), from(0, 0))}},
	}
}

// wrongAsks is what cannot be asked, with its errors.
func wrongAsks() map[api.CertifyAsk]api.Errno {
	return map[api.CertifyAsk]api.Errno{
		{Kind: -1}:                                 api.ErrKind,
		{Kind: 2}:                                  api.ErrKind,
		{Kind: math.MinInt, Age: -1}:               api.ErrKind,
		{Kind: math.MaxInt, Age: 401}:              api.ErrKind,
		{Kind: api.CertifyMean, Age: -1}:           api.ErrRange,
		{Kind: api.CertifyMean, Age: 401}:          api.ErrRange,
		{Kind: api.CertifyShare, Age: -1}:          api.ErrRange,
		{Kind: api.CertifyShare, Age: 401}:         api.ErrRange,
		{Kind: api.CertifyShare, Age: math.MinInt}: api.ErrRange,
	}
}

// A wrongProof is weights of a book of one entry, with their error.
type wrongProof struct {
	p api.CertifyProof
	e api.Errno
}

func wrongProofs() []wrongProof {
	most := api.MaxCertifyDen
	l := []wrongProof{
		{proof(1, 0), api.ErrShape},
		{proof(0, 0, 0, 0), api.ErrShape},
		{proof(0, 0, 1, -1), api.ErrShape},
	}
	for _, n := range outside(1, most) {
		l = append(l, wrongProof{proof(n, 10, 20), api.ErrRange})
	}
	for _, n := range outside(-most, most) {
		l = append(l, wrongProof{proof(1, n, 20), api.ErrRange})
	}
	for _, n := range outside(0, most) {
		l = append(l, wrongProof{proof(1, 10, n), api.ErrRange})
	}
	return l
}
