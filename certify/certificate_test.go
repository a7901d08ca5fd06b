package certify

import (
	"fmt"
	"testing"

	"criadera/api"
)

// with is the right certificate with a change.
func with(change func(c *api.CertifyCertificate)) api.CertifyCertificate {
	c := certificate()
	change(&c)
	return c
}

// TestIssue: P5.7.
func TestIssue(t *testing.T) {
	issued := func(a api.CertifyAsk, value int, p api.CertifyProof) api.CertifyCertificate {
		return api.CertifyCertificate{Name: "old1", Ask: a, Value: value, Proof: p}
	}
	third := oldWith(entry("third", -1, 0, -3))
	single := api.CertifyBook{Parts: []api.CertifyPart{part("c", from(0, 0), from(0, 0))}}
	for _, x := range []struct {
		what string
		b    api.CertifyBook
		a    api.CertifyAsk
		want api.CertifyCertificate
	}{
		{"the chapter's mean", old(), mean(), certificate()},
		{"the chapter's share", old(), share(50), issued(share(50), 500, proof(2, 0, 1))},
		{"the age of a mean changes nothing, and stays", old(), api.CertifyAsk{Age: 50}, issued(api.CertifyAsk{Age: 50}, 30, proof(1, 10, 20))},
		{"the age of a mean that is not whole", third, api.CertifyAsk{Age: 400}, issued(api.CertifyAsk{Age: 400}, 23, proof(3, 30, 40))},
		{"the age of a mean of one part", single, api.CertifyAsk{Age: 1}, issued(api.CertifyAsk{Age: 1}, 0, proof(1, 0))},
		{"a mean that is not whole", third, mean(), issued(mean(), 23, proof(3, 30, 40))},
		{"a share that is not whole", third, share(50), issued(share(50), 333, proof(3, 0, 1))},
		{"a share of nothing", old(), share(400), issued(share(400), 0, proof(1, 0, 0))},
		{"a share of all", old(), share(0), issued(share(0), 1000, proof(1, 1, 0))},
		{"one part", alone(), mean(), issued(mean(), 10, proof(1, 10))},
	} {
		c, e := Issue(x.b, x.a, "old1")
		want(t, x.what, c, e, x.want, api.OK)
		want(t, x.what, CheckCertificate(x.b, c), 0, api.OK, 0)
	}
	c, e := Issue(clashing(), mean(), "old1")
	refused(t, "no mix", c, e, api.ErrNone)
	for _, name := range wrongNames() {
		c, e := Issue(api.CertifyBook{}, api.CertifyAsk{Kind: -1}, name)
		refused(t, name, c, e, api.ErrName)
	}
	for a, e := range wrongAsks() {
		c, f := Issue(clashing(), a, "old1")
		refused(t, fmt.Sprint(a), c, f, e)
	}
	for e, wrong := range wrongBooks() {
		c, f := Issue(wrong, api.CertifyAsk{Kind: -1}, "old1")
		refused(t, "a wrong book", c, f, e)
	}
}

// TestCheckCertificate: P5.7, also of HangsOn.
func TestCheckCertificate(t *testing.T) {
	proved := func(a api.CertifyAsk, value int, p api.CertifyProof) api.CertifyCertificate {
		return with(func(c *api.CertifyCertificate) { c.Ask, c.Value, c.Proof = a, value, p })
	}
	most := api.MaxCertifyDen
	third := oldWith(entry("third", -1, 0, -3))
	for _, x := range []struct {
		what string
		b    api.CertifyBook
		c    api.CertifyCertificate
		l    []int
		e    api.Errno
	}{
		{"the chapter's mean", old(), certificate(), []int{0}, api.OK},
		{"the chapter's share", old(), proved(share(50), 500, proof(2, 0, 1)), []int{0}, api.OK},
		{"less than it proves", old(), proved(mean(), 29, proof(1, 10, 20)), []int{0}, api.OK},
		{"nothing", old(), proved(mean(), 0, proof(1, 10, 20)), []int{0}, api.OK},
		{"a proof without weights", old(), proved(mean(), 10, proof(1, 10, 0)), nil, api.OK},
		{"more than it proves", old(), proved(mean(), 31, proof(1, 10, 20)), nil, api.ErrBreak},
		{"a greater share than it proves", old(), proved(share(50), 501, proof(2, 0, 1)), nil, api.ErrBreak},
		{"a share that is not whole", third, proved(share(50), 333, proof(3, 0, 1)), []int{0}, api.OK},
		{"a greater one", third, proved(share(50), 334, proof(3, 0, 1)), nil, api.ErrBreak},
		{"the greatest number", old(), proved(mean(), 1000, proof(1, 10, 20)), nil, api.ErrBreak},
		{"a bound below 0", old(), proved(mean(), 0, proof(1, -30, 20)), nil, api.ErrBreak},
		{"a bound below 0 of a share", old(), proved(share(50), 0, proof(most, -1, 0)), nil, api.ErrBreak},
		{"a proof that proves none", old(), proved(mean(), 1000, proof(1, 11, 20)), nil, api.ErrProof},
		{"the age of a mean changes nothing", old(), proved(api.CertifyAsk{Age: 60}, 30, proof(1, 10, 20)), []int{0}, api.OK},
		{"a book that permits no mix", clashing(), proved(mean(), 1000, proof(1, 10, 1000, 980)), []int{0, 1}, api.OK},
		{"an entry that does not weigh", oldWith(few(), half()), proved(mean(), 30, proof(1, 10, 0, 20)), []int{1}, api.OK},
		{"no entries", oldWith(), proved(mean(), 10, proof(1, 10)), nil, api.OK},
		{"the greatest weights", oldWith(entry("x", -20, 20, 20)), proved(share(50), 1000, proof(most, most, most)), []int{0}, api.OK},
		{"the greatest weights against it", oldWith(entry("x", 20, 20, 20)), proved(share(50), 0, proof(most, most, most)), nil, api.ErrBreak},
	} {
		want(t, x.what, CheckCertificate(x.b, x.c), 0, x.e, 0)
		l, e := HangsOn(x.b, x.c)
		want(t, x.what, l, e, x.l, x.e)
	}
}

// TestWrongCertificates: P5.7, also of HangsOn.
func TestWrongCertificates(t *testing.T) {
	check := func(what string, b api.CertifyBook, c api.CertifyCertificate, e api.Errno) {
		t.Helper()
		want(t, what, CheckCertificate(b, c), 0, e, 0)
		l, f := HangsOn(b, c)
		refused(t, what, l, f, e)
	}
	for e, wrong := range wrongBooks() {
		check("a wrong book", wrong, api.CertifyCertificate{}, e)
	}
	for _, name := range wrongNames() {
		check(name, old(), api.CertifyCertificate{Name: name, Ask: api.CertifyAsk{Kind: -1}}, api.ErrName)
	}
	for a, e := range wrongAsks() {
		check(fmt.Sprint(a), old(), with(func(c *api.CertifyCertificate) { c.Ask, c.Value = a, -1 }), e)
	}
	for _, value := range outside(0, 1000) {
		check(fmt.Sprint(value), old(), with(func(c *api.CertifyCertificate) { c.Value, c.Proof = value, proof(0, 0) }), api.ErrRange)
	}
	for _, x := range wrongProofs() {
		check(fmt.Sprint(x.p), old(), with(func(c *api.CertifyCertificate) { c.Value, c.Proof = 1000, x.p }), x.e)
	}
}
