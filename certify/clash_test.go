package certify

import (
	"fmt"
	"testing"

	"criadera/api"
)

// TestCheckClash: P5.5.
func TestCheckClash(t *testing.T) {
	most := api.MaxCertifyDen
	idle := oldWith(half(), entry("idle", 5, 1, 1), few())
	for _, x := range []struct {
		what string
		b    api.CertifyBook
		p    api.CertifyProof
		l    []int
		e    api.Errno
	}{
		{"the chapter's example", clashing(), proof(1, 0, 1, 1), []int{0, 1}, api.OK},
		{"any denominator", clashing(), proof(most, 0, 1, 1), []int{0, 1}, api.OK},
		{"the greatest weights", clashing(), proof(1, 0, most, most), []int{0, 1}, api.OK},
		{"a level below 0", clashing(), proof(1, -1, 3, 2), nil, api.ErrProof},
		{"another level below 0", clashing(), proof(1, -2, 3, 2), []int{0, 1}, api.OK},
		{"too low a level", clashing(), proof(1, -1, 1, 1), nil, api.ErrProof},
		{"too high a level", clashing(), proof(1, 1, 1, 1), nil, api.ErrProof},
		{"too little of an entry", clashing(), proof(1, 0, 2, 1), nil, api.ErrProof},
		{"one entry of two", clashing(), proof(1, 0, 1, 0), nil, api.ErrProof},
		{"no weights", clashing(), proof(1, 0, 0, 0), nil, api.ErrProof},
		{"an entry that does not weigh", idle, proof(1, 0, 1, 0, 1), []int{0, 2}, api.OK},
		{"an entry that need not weigh", idle, proof(1, 1, 9, 1, 9), []int{0, 1, 2}, api.OK},
		{"an entry that clashes alone", oldWith(entry("none", -1, 0, 0)), proof(1, 0, 1), []int{0}, api.OK},
		{"a book that permits a mix", old(), proof(1, 0, 1), nil, api.ErrProof},
		{"no entries", oldWith(), proof(1, 0), nil, api.ErrProof},
		{"no entries, a level below 0", oldWith(), proof(1, -1), nil, api.ErrProof},
		{"no entries, a level above 0", oldWith(), proof(1, 1), nil, api.ErrProof},
	} {
		l, e := CheckClash(x.b, x.p)
		want(t, x.what, l, e, x.l, x.e)
	}
	for _, x := range wrongProofs() {
		l, e := CheckClash(old(), x.p)
		refused(t, fmt.Sprint(x.p), l, e, x.e)
	}
	for e, wrong := range wrongBooks() {
		l, f := CheckClash(wrong, proof(0, 0))
		refused(t, "a wrong book", l, f, e)
	}
}

// TestClash: P5.5.
func TestClash(t *testing.T) {
	for _, x := range []struct {
		what string
		b    api.CertifyBook
		p    api.CertifyProof
	}{
		{"the chapter's example", clashing(), proof(1, 0, 1, 1)},
		{"an entry that clashes alone", oldWith(half(), entry("none", -1, 0, 0)), proof(1, 0, 0, 1)},
		{"two that clash alone", oldWith(entry("none", -1, 0, 0), entry("none-2", -1, 0, 0)), proof(1, 0, 1, 0)},
		{"an entry of one part", alone(entry("none", 4, 5)), proof(1, 5, 1)},
	} {
		p, e := Clash(x.b)
		want(t, x.what, p, e, x.p, api.OK)
		if _, e := CheckClash(x.b, p); e != api.OK {
			t.Errorf("%s: %d", x.what, e)
		}
	}
	for _, b := range []api.CertifyBook{old(), oldWith(), alone(), oldWith(entry("all", 0, 0, 0)), oldWith(entry("just", 2, 2, 2))} {
		p, e := Clash(b)
		refused(t, fmt.Sprint(b), p, e, api.ErrNone)
	}
	for e, wrong := range wrongBooks() {
		p, f := Clash(wrong)
		refused(t, "a wrong book", p, f, e)
	}
}

// TestLeastClash: P5.5.
func TestLeastClash(t *testing.T) {
	none := entry("none", -1, 0, 0)
	for _, x := range []struct {
		what string
		b    api.CertifyBook
		l    []int
	}{
		{"the chapter's example", clashing(), []int{0, 1}},
		{"an entry that clashes alone", oldWith(half(), few(), none), []int{2}},
		{"the first one of two that clash alone", oldWith(half(), few(), none, entry("none-2", 1, 2, 2)), []int{2}},
		{"the first ones of several", oldWith(entry("idle", 5, 1, 1), half(), entry("half-2", -1, 0, -2), few()), []int{1, 3}},
		{"an earlier one with a later one", oldWith(half(), entry("half-2", -1, 0, -2), few(), entry("few-2", 0, 0, 2)), []int{0, 2}},
	} {
		l, e := LeastClash(x.b)
		want(t, x.what, l, e, x.l, api.OK)
	}
	for _, b := range []api.CertifyBook{old(), oldWith(), alone()} {
		l, e := LeastClash(b)
		refused(t, fmt.Sprint(b), l, e, api.ErrNone)
	}
	for e, wrong := range wrongBooks() {
		l, f := LeastClash(wrong)
		refused(t, "a wrong book", l, f, e)
	}
}

// TestLeastGround: P5.5.
func TestLeastGround(t *testing.T) {
	twice := oldWith(entry("fifth", -1, 0, -5), half(), entry("half-2", -1, 0, -2))
	for _, x := range []struct {
		what  string
		b     api.CertifyBook
		a     api.CertifyAsk
		value int
		l     []int
		e     api.Errno
	}{
		{"the chapter's mean", old(), mean(), 30, []int{0}, api.OK},
		{"what every mix has", old(), mean(), 10, nil, api.OK},
		{"nothing", old(), mean(), 0, nil, api.OK},
		{"more than every mix has", old(), mean(), 11, []int{0}, api.OK},
		{"more than there is", old(), mean(), 31, nil, api.ErrNone},
		{"the greatest number", old(), mean(), 1000, nil, api.ErrNone},
		{"a mean does not look at the age", old(), api.CertifyAsk{Age: 400}, 30, []int{0}, api.OK},
		{"a share in thousandths", old(), share(50), 500, []int{0}, api.OK},
		{"more than this share", old(), share(50), 501, nil, api.ErrNone},
		{"a share of nothing", old(), share(50), 0, nil, api.OK},
		{"a share of all", old(), share(10), 1000, nil, api.OK},
		{"a share that is not whole", oldWith(entry("third", -1, 0, -3)), share(50), 333, []int{0}, api.OK},
		{"more than it", oldWith(entry("third", -1, 0, -3)), share(50), 334, nil, api.ErrNone},
		{"the first entry that is enough", twice, mean(), 30, []int{1}, api.OK},
		{"the first entry", twice, mean(), 18, []int{0}, api.OK},
		{"one that is stronger", twice, mean(), 19, []int{1}, api.OK},
		{"a clash has every value", clashing(), mean(), 1000, []int{0, 1}, api.OK},
		{"a clash in a part of the book", oldWith(half(), entry("none", -1, 0, 0)), share(50), 1000, []int{1}, api.OK},
		{"no clash is needed", clashing(), mean(), 30, []int{0}, api.OK},
	} {
		l, e := LeastGround(x.b, x.a, x.value)
		want(t, x.what, l, e, x.l, x.e)
	}
	for _, value := range outside(0, 1000) {
		l, e := LeastGround(old(), mean(), value)
		refused(t, fmt.Sprint(value), l, e, api.ErrRange)
	}
	for a, e := range wrongAsks() {
		l, f := LeastGround(old(), a, -1)
		refused(t, fmt.Sprint(a), l, f, e)
	}
	for e, wrong := range wrongBooks() {
		l, f := LeastGround(wrong, api.CertifyAsk{Kind: -1}, -1)
		refused(t, "a wrong book", l, f, e)
	}
}
