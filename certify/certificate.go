package certify

import (
	"criadera/api"
	"criadera/checks"
	"criadera/ranges"
)

// Issue returns a certificate of what is asked, as it was asked: the Age of a mean changes nothing, but it stays.
func Issue(b api.CertifyBook, a api.CertifyAsk, name string) (api.CertifyCertificate, api.Errno) {
	if e := checks.Name(name); e != api.OK {
		return api.CertifyCertificate{}, e
	}
	x, e := Least(b, a)
	if e != api.OK {
		return api.CertifyCertificate{}, e
	}
	return api.CertifyCertificate{Name: name, Ask: a, Value: ranges.Floor(unitOf(a)*x.Value[0], x.Value[1]), Proof: x.Proof}, api.OK
}

// CheckCertificate accepts a certificate that is right of a book.
func CheckCertificate(b api.CertifyBook, c api.CertifyCertificate) api.Errno {
	checked, e := bookOf(b)
	if e := checks.First(e, checks.Name(c.Name), CheckAsk(c.Ask), numberError(c.Value), checked.weightsError(c.Proof)); e != api.OK {
		return e
	}
	bound, ok := checked.bound(c.Ask, c.Proof)
	return checks.First(checks.Unless(ok, api.ErrProof), checks.Unless(reaches(bound, c.Ask, c.Value), api.ErrBreak))
}

// HangsOn returns the numbers of the entries on which a right certificate hangs.
func HangsOn(b api.CertifyBook, c api.CertifyCertificate) ([]int, api.Errno) {
	if e := CheckCertificate(b, c); e != api.OK {
		return nil, e
	}
	return hungOn(c.Proof), api.OK
}
