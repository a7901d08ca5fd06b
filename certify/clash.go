package certify

import (
	"slices"

	"criadera/api"
	"criadera/checks"
	"criadera/choices"
	"criadera/rows"
)

// clashes tells whether a proof proves a clash.
func (b book) clashes(p api.CertifyProof) bool {
	return slices.Min(b.weighed(p)) >= p.Level && rows.ComesTo(p.Weights, b.mosts()) < p.Level
}

// CheckClash accepts a proof of a clash, and returns the entries on which it hangs.
func CheckClash(b api.CertifyBook, p api.CertifyProof) ([]int, api.Errno) {
	checked, e := bookOf(b)
	if e := checks.First(e, checked.weightsError(p)); e != api.OK {
		return nil, e
	}
	if !checked.clashes(p) {
		return nil, api.ErrProof
	}
	return hungOn(p), api.OK
}

// Clash returns a proof of a clash. It looks for the first entry that permits none of the mixes that those in front of it permit: what proves how much of it each of these mixes has, at least, proves the clash as well, with as much of the entry itself as this is told in.
func Clash(b api.CertifyBook) (api.CertifyProof, api.Errno) {
	checked, e := bookOf(b)
	if e != api.OK {
		return api.CertifyProof{}, e
	}
	for n, x := range checked.Entries {
		earlier := checked.with(checked.Entries[:n]...)
		least, _ := earlier.least(x.Coefs)
		if least.Value[0] > x.Most*least.Value[1] {
			weights := make([]int, len(checked.Entries))
			copy(weights, least.Proof.Weights)
			weights[n] = least.Proof.Den
			return api.CertifyProof{Den: 1, Level: least.Proof.Level, Weights: weights}, api.OK
		}
	}
	return api.CertifyProof{}, api.ErrNone
}

// fewest is the least set of entries that alone are such a book, and whether all entries together are: any book with more entries is one as well.
func (b book) fewest(isSuch func(b book) bool) ([]int, bool) {
	if !isSuch(b) {
		return nil, false
	}
	var numbers, found []int
	for n := range b.Entries {
		numbers = append(numbers, n)
	}
search:
	for size := range len(numbers) + 1 {
		for choice := range choices.Of(numbers, size) {
			if isSuch(b.only(choice)) {
				found = choice
				break search
			}
		}
	}
	return found, true
}

// LeastClash returns the least set of entries that permit no mix.
func LeastClash(b api.CertifyBook) ([]int, api.Errno) {
	checked, e := bookOf(b)
	if e != api.OK {
		return nil, e
	}
	entries, ok := checked.fewest(func(b book) bool { return !b.permitsAny() })
	return entries, checks.Unless(ok, api.ErrNone)
}

// LeastGround returns the least set of entries that alone have a least value of at least a number.
func LeastGround(b api.CertifyBook, a api.CertifyAsk, value int) ([]int, api.Errno) {
	checked, e := askedOf(b, a)
	if e := checks.First(e, numberError(value)); e != api.OK {
		return nil, e
	}
	entries, ok := checked.fewest(func(b book) bool {
		least, ok := b.least(b.worths(a))
		return !ok || reaches(least.Value, a, value)
	})
	return entries, checks.Unless(ok, api.ErrNone)
}
