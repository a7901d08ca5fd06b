package certify

import (
	"criadera/api"
	"criadera/checks"
	"criadera/rows"
)

// The names of the entries of carbon.
const (
	carbonMost  = "carbon-most"
	carbonLeast = "carbon-least"
)

func leastCarbon(p api.CertifyPart) int { return p.Carbon.Lo }

func mostCarbon(p api.CertifyPart) int { return p.Carbon.Hi }

// WithCarbon returns the book with carbon that was measured.
func WithCarbon(b api.CertifyBook, measured api.Range) (api.CertifyBook, api.Errno) {
	checked, e := bookOf(b)
	if e := checks.First(e, checks.Range(measured, api.MaxCertifyCarbon)); e != api.OK {
		return api.CertifyBook{}, e
	}
	return checked.more(
		api.CertifyEntry{Name: carbonMost, Coefs: checked.perPart(leastCarbon), Most: measured.Hi},
		api.CertifyEntry{Name: carbonLeast, Coefs: rows.Opposites(checked.perPart(mostCarbon)), Most: -measured.Lo})
}

// Agrees returns whether the mixes that a book permits have carbon that was measured: none of them surely, perhaps, or each one surely.
func Agrees(b api.CertifyBook, measured api.Range) (int, api.Errno) {
	with, e := WithCarbon(b, measured)
	if e != api.OK {
		return 0, e
	}
	if !(book{with}).permitsAny() {
		return api.AnswerNo, api.OK
	}
	checked := book{b}
	lo, hi, _ := checked.ends(checked.perPart(leastCarbon), checked.perPart(mostCarbon))
	if lo[0] >= measured.Lo*lo[1] && hi[0] <= measured.Hi*hi[1] {
		return api.AnswerYes, api.OK
	}
	return api.AnswerMaybe, api.OK
}
