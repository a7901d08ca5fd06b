package certify

import (
	"fmt"
	"math"
	"testing"

	"criadera/api"
)

// wrongMixes is mixes of two parts with their errors, ErrBreak left out.
func wrongMixes() []struct {
	m api.CertifyMix
	e api.Errno
} {
	most := api.MaxCertifyDen
	type wrong = struct {
		m api.CertifyMix
		e api.Errno
	}
	l := []wrong{
		{api.CertifyMix{}, api.ErrShape},
		{mix(0, -1), api.ErrShape},
		{mix(1, 1), api.ErrShape},
		{mix(1, 0, 0, 1), api.ErrShape},
		{mix(2, 3, -1), api.ErrRange},
		{mix(2, -1, 3), api.ErrRange},
		{mix(2, 1, 3), api.ErrRange},
		{mix(most+1, most, 1), api.ErrRange},
		{mix(2, math.MinInt, math.MinInt), api.ErrRange},
		{mix(2, math.MaxInt, math.MaxInt), api.ErrRange},
		{mix(2, 0, 0), api.ErrSum},
		{mix(2, 1, 0), api.ErrSum},
		{mix(2, 1, 2), api.ErrSum},
		{mix(most, most, most), api.ErrSum},
	}
	for _, den := range outside(1, most) {
		l = append(l, wrong{mix(den, 0, 0), api.ErrRange})
	}
	return l
}

// TestCheckMix: P5.2.
func TestCheckMix(t *testing.T) {
	most := api.MaxCertifyDen
	several := oldWith(entry("any", 0, 0, 0), half(), entry("some", 0, 2, -2))
	for _, x := range []struct {
		what string
		b    api.CertifyBook
		m    api.CertifyMix
		n    int
		e    api.Errno
	}{
		{"just half", old(), mix(2, 1, 1), 0, api.OK},
		{"not in lowest terms", old(), mix(8, 2, 6), 0, api.OK},
		{"all of one part", old(), mix(1, 0, 1), 0, api.OK},
		{"one part", alone(), mix(7, 7), 0, api.OK},
		{"the greatest numbers", oldWith(entry("x", 20, 20, 20), entry("y", -20, -20, -20)), mix(most, most-1, 1), 0, api.OK},
		{"no entries", oldWith(), mix(1, 1, 0), 0, api.OK},
		{"all entries permit it", several, mix(2, 1, 1), 0, api.OK},
		{"too few", old(), mix(3, 2, 1), 0, api.ErrBreak},
		{"just too few", old(), mix(most, most/2+1, most/2-1), 0, api.ErrBreak},
		{"the first entry that does not permit it", several, mix(3, 2, 1), 1, api.ErrBreak},
		{"the second entry of a clash", clashing(), mix(2, 1, 1), 1, api.ErrBreak},
		{"an entry that permits nothing", oldWith(half(), few(), entry("none", -20, 0, 0)), mix(1, 0, 1), 1, api.ErrBreak},
		{"an entry that permits nothing, alone", oldWith(entry("none", -1, 0, 0)), mix(1, 0, 1), 0, api.ErrBreak},
	} {
		n, e := CheckMix(x.b, x.m)
		want(t, x.what, n, e, x.n, x.e)
	}
	for _, x := range wrongMixes() {
		n, e := CheckMix(old(), x.m)
		refused(t, fmt.Sprint(x.m), n, e, x.e)
	}
	for e, wrong := range wrongBooks() {
		n, f := CheckMix(wrong, mix(0))
		refused(t, "a wrong book", n, f, e)
	}
}

// TestValueOf: P5.2.
func TestValueOf(t *testing.T) {
	most := api.MaxCertifyDen
	for _, x := range []struct {
		what  string
		a     api.CertifyAsk
		m     api.CertifyMix
		value [2]int
	}{
		{"the chapter's least mean", mean(), mix(2, 1, 1), [2]int{30, 1}},
		{"a mean that is not whole", mean(), mix(3, 1, 2), [2]int{110, 3}},
		{"a mix that is not permitted", mean(), mix(1, 1, 0), [2]int{10, 1}},
		{"a mean does not look at the age", api.CertifyAsk{Kind: api.CertifyMean, Age: 400}, mix(2, 1, 1), [2]int{30, 1}},
		{"the greatest numbers", mean(), mix(most, 1, most-1), [2]int{50*most/40 - 1, most / 40}},
		{"a share", share(50), mix(8, 2, 6), [2]int{3, 4}},
		{"a share of what is just not so old", share(51), mix(8, 2, 6), [2]int{0, 1}},
		{"a share of all", share(10), mix(8, 2, 6), [2]int{1, 1}},
		{"a share of the older part", share(11), mix(8, 2, 6), [2]int{3, 4}},
		{"a share of any age", share(0), mix(8, 2, 6), [2]int{1, 1}},
		{"none of it", share(50), mix(3, 3, 0), [2]int{0, 1}},
	} {
		value, e := ValueOf(old(), x.a, x.m)
		want(t, x.what, value, e, x.value, api.OK)
	}
	for _, x := range wrongMixes() {
		value, e := ValueOf(old(), mean(), x.m)
		refused(t, fmt.Sprint(x.m), value, e, x.e)
	}
	for a, e := range wrongAsks() {
		value, f := ValueOf(old(), a, mix(0))
		refused(t, fmt.Sprint(a), value, f, e)
	}
	for e, wrong := range wrongBooks() {
		value, f := ValueOf(wrong, api.CertifyAsk{Kind: -1}, mix(0))
		refused(t, "a wrong book", value, f, e)
	}
}
