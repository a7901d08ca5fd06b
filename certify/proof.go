package certify

import (
	"slices"

	"criadera/api"
	"criadera/checks"
	"criadera/lowest"
	"criadera/rows"
)

// rangesError asks for weights that are numbers of their ranges, as many as there may be.
func rangesError(p api.CertifyProof) api.Errno {
	return checks.First(
		checks.Number(p.Den, 1, api.MaxCertifyDen),
		checks.Number(p.Level, -api.MaxCertifyDen, api.MaxCertifyDen),
		checks.Numbers(p.Weights, 0, api.MaxCertifyDen))
}

// weightsError asks for weights of all entries.
func (b book) weightsError(p api.CertifyProof) api.Errno {
	return checks.First(checks.Unless(len(p.Weights) == len(b.Entries), api.ErrShape), rangesError(p))
}

// mosts is Most of all entries.
func (b book) mosts() []int {
	l := make([]int, 0, len(b.Entries))
	for _, x := range b.Entries {
		l = append(l, x.Most)
	}
	return l
}

// weighed is, for each part, the coefficients of all entries, each one as often as it weighs.
func (b book) weighed(p api.CertifyProof) []int {
	l := make([]int, len(b.Parts))
	for n, x := range b.Entries {
		for part, coef := range x.Coefs {
			l[part] += p.Weights[n] * coef
		}
	}
	return l
}

// bound is the bound that a proof proves of what is asked, and whether it proves one.
func (b book) bound(a api.CertifyAsk, p api.CertifyProof) ([2]int, bool) {
	sums := b.weighed(p)
	for part, worth := range b.worths(a) {
		sums[part] += worth * p.Den
	}
	if slices.Min(sums) < p.Level {
		return [2]int{}, false
	}
	return lowest.Fraction(p.Level-rows.ComesTo(p.Weights, b.mosts()), p.Den), true
}

// hungOn is the numbers of entries on which a proof hangs.
func hungOn(p api.CertifyProof) []int {
	var l []int
	for n, weight := range p.Weights {
		if weight > 0 {
			l = append(l, n)
		}
	}
	return l
}

// CheckProof accepts a proof of what is asked, and returns its bound.
func CheckProof(b api.CertifyBook, a api.CertifyAsk, p api.CertifyProof) ([2]int, api.Errno) {
	checked, e := askedOf(b, a)
	if e := checks.First(e, checked.weightsError(p)); e != api.OK {
		return [2]int{}, e
	}
	bound, ok := checked.bound(a, p)
	return bound, checks.Unless(ok, api.ErrProof)
}
