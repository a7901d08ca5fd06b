package certify

import (
	"criadera/api"
	"criadera/checks"
	"criadera/lowest"
	"criadera/rows"
)

// mixError asks for a mix, permitted or not.
func (b book) mixError(m api.CertifyMix) api.Errno {
	sum := 0
	for _, n := range m.Parts {
		sum += n
	}
	return checks.First(
		checks.Unless(len(m.Parts) == len(b.Parts), api.ErrShape),
		checks.Number(m.Den, 1, api.MaxCertifyDen),
		checks.Numbers(m.Parts, 0, m.Den),
		checks.Unless(sum == m.Den, api.ErrSum))
}

// CheckMix accepts a mix that a book permits. Beside ErrBreak stands the number of the first entry that does not permit it.
func CheckMix(b api.CertifyBook, m api.CertifyMix) (int, api.Errno) {
	checked, e := bookOf(b)
	if e := checks.First(e, checked.mixError(m)); e != api.OK {
		return 0, e
	}
	return checks.Each(len(b.Entries), func(n int) api.Errno {
		x := b.Entries[n]
		return checks.Unless(rows.ComesTo(m.Parts, x.Coefs) <= x.Most*m.Den, api.ErrBreak)
	})
}

// ValueOf returns the value of a mix, whether it is permitted or not.
func ValueOf(b api.CertifyBook, a api.CertifyAsk, m api.CertifyMix) ([2]int, api.Errno) {
	checked, e := askedOf(b, a)
	if e := checks.First(e, checked.mixError(m)); e != api.OK {
		return [2]int{}, e
	}
	return lowest.Fraction(rows.ComesTo(m.Parts, checked.worths(a)), m.Den), api.OK
}
