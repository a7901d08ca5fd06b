package certify

import (
	"fmt"
	"math"
	"testing"

	"criadera/api"
)

// TestCheckProof: P5.3.
func TestCheckProof(t *testing.T) {
	most := api.MaxCertifyDen
	for _, x := range []struct {
		what  string
		b     api.CertifyBook
		a     api.CertifyAsk
		p     api.CertifyProof
		bound [2]int
		e     api.Errno
	}{
		{"the chapter's mean", old(), mean(), proof(1, 10, 20), [2]int{30, 1}, api.OK},
		{"the chapter's share", old(), share(50), proof(2, 0, 1), [2]int{1, 2}, api.OK},
		{"not in lowest terms", old(), mean(), proof(3, 30, 60), [2]int{30, 1}, api.OK},
		{"a lower level", old(), mean(), proof(1, 9, 20), [2]int{29, 1}, api.OK},
		{"a level below 0", old(), mean(), proof(4, -7, 3), [2]int{-1, 1}, api.OK},
		{"a bound of 0", old(), mean(), proof(4, 0, 0), [2]int{0, 1}, api.OK},
		{"a bound that is not whole", old(), mean(), proof(6, 15, 0), [2]int{5, 2}, api.OK},
		{"a mean does not look at the age", old(), api.CertifyAsk{Age: 400}, proof(1, 10, 20), [2]int{30, 1}, api.OK},
		{"too high a level", old(), mean(), proof(1, 11, 20), [2]int{}, api.ErrProof},
		{"too great a weight", old(), mean(), proof(1, 10, 21), [2]int{}, api.ErrProof},
		{"too high a level for the second part", old(), mean(), proof(2, 20, 41), [2]int{}, api.ErrProof},
		{"a share of what is just not so old", old(), share(51), proof(2, 0, 1), [2]int{}, api.ErrProof},
		{"the proof of a clash proves any bound", clashing(), mean(), proof(1, 10, 1000, 980), [2]int{1010, 1}, api.OK},
		{"no entries", oldWith(), mean(), proof(1, 10), [2]int{10, 1}, api.OK},
		{"no entries, and too high a level", oldWith(), mean(), proof(1, 11), [2]int{}, api.ErrProof},
		{"one part", alone(), mean(), proof(7, 69), [2]int{69, 7}, api.OK},
		{"the greatest numbers", old(), mean(), proof(most, -most, most), [2]int{0, 1}, api.OK},
		{"the greatest numbers, refused", oldWith(entry("x", -20, -20, 20)), mean(), proof(most, most, most), [2]int{}, api.ErrProof},
		{"the greatest bound", oldWith(entry("x", -20, 20, 20)), mean(), proof(1, most, most), [2]int{21 * most, 1}, api.OK},
	} {
		bound, e := CheckProof(x.b, x.a, x.p)
		want(t, x.what, bound, e, x.bound, x.e)
	}
	for _, x := range wrongProofs() {
		bound, e := CheckProof(old(), mean(), x.p)
		refused(t, fmt.Sprint(x.p), bound, e, x.e)
	}
	for a, e := range wrongAsks() {
		bound, f := CheckProof(old(), a, proof(0, 0))
		refused(t, fmt.Sprint(a), bound, f, e)
	}
	for e, wrong := range wrongBooks() {
		bound, f := CheckProof(wrong, api.CertifyAsk{Kind: -1}, proof(0, 0))
		refused(t, "a wrong book", bound, f, e)
	}
}

// TestLeast: P5.3.
func TestLeast(t *testing.T) {
	for _, x := range []struct {
		what string
		b    api.CertifyBook
		a    api.CertifyAsk
		want api.CertifyAnswer
	}{
		{"the chapter's mean", old(), mean(), api.CertifyAnswer{Value: [2]int{30, 1}, Mix: mix(2, 1, 1), Proof: proof(1, 10, 20)}},
		{"a mean does not look at the age", old(), api.CertifyAsk{Age: 400}, api.CertifyAnswer{Value: [2]int{30, 1}, Mix: mix(2, 1, 1), Proof: proof(1, 10, 20)}},
		{"the chapter's share", old(), share(50), api.CertifyAnswer{Value: [2]int{1, 2}, Mix: mix(2, 1, 1), Proof: proof(2, 0, 1)}},
		{"no entries", oldWith(), mean(), api.CertifyAnswer{Value: [2]int{10, 1}, Mix: mix(1, 1, 0), Proof: proof(1, 10)}},
		{"one part", alone(), mean(), api.CertifyAnswer{Value: [2]int{10, 1}, Mix: mix(1, 1), Proof: proof(1, 10)}},
		{"one part with an entry", alone(entry("x", 5, 5)), share(10), api.CertifyAnswer{Value: [2]int{1, 1}, Mix: mix(1, 1), Proof: proof(1, 1, 0)}},
		{"a third at least", oldWith(entry("third", -1, 0, -3)), mean(), api.CertifyAnswer{Value: [2]int{70, 3}, Mix: mix(3, 2, 1), Proof: proof(3, 30, 40)}},
	} {
		got, e := Least(x.b, x.a)
		want(t, x.what, got, e, x.want, api.OK)
	}
	for _, b := range []api.CertifyBook{clashing(), alone(entry("none", -1, 0)), oldWith(entry("none", -1, 0, 0)), oldWith(entry("none", 1, 2, 2))} {
		got, e := Least(b, mean())
		refused(t, fmt.Sprint(b), got, e, api.ErrNone)
	}
	for a, e := range wrongAsks() {
		got, f := Least(clashing(), a)
		refused(t, fmt.Sprint(a), got, f, e)
	}
	for e, wrong := range wrongBooks() {
		got, f := Least(wrong, api.CertifyAsk{Kind: -1})
		refused(t, "a wrong book", got, f, e)
	}
}

// TestShareOf: P5.4.
func TestShareOf(t *testing.T) {
	for _, x := range []struct {
		what  string
		b     api.CertifyBook
		part  int
		share api.Range
		e     api.Errno
	}{
		{"the chapter's example", old(), 1, from(500, 1000), api.OK},
		{"the other part", old(), 0, from(0, 500), api.OK},
		{"rounded down", oldWith(entry("third", -1, 0, -3)), 1, from(333, 1000), api.OK},
		{"rounded up", oldWith(entry("third", -1, 0, -3)), 0, from(0, 667), api.OK},
		{"both ends rounded", oldWith(entry("x", -2, 0, -3), entry("y", 2, 0, 3)), 1, from(666, 667), api.OK},
		{"no entries", oldWith(), 0, from(0, 1000), api.OK},
		{"one part", alone(), 0, from(1000, 1000), api.OK},
		{"no mix", clashing(), 0, api.Range{}, api.ErrNone},
		{"no such part", clashing(), 2, api.Range{}, api.ErrMissing},
		{"a part below 0", old(), -1, api.Range{}, api.ErrMissing},
		{"the least part", old(), math.MinInt, api.Range{}, api.ErrMissing},
		{"the greatest part", old(), math.MaxInt, api.Range{}, api.ErrMissing},
	} {
		share, e := ShareOf(x.b, x.part)
		want(t, x.what, share, e, x.share, x.e)
	}
	for e, wrong := range wrongBooks() {
		share, f := ShareOf(wrong, -1)
		refused(t, "a wrong book", share, f, e)
	}
}

// TestAgeOf: P5.4.
func TestAgeOf(t *testing.T) {
	for _, x := range []struct {
		what string
		b    api.CertifyBook
		age  api.Range
		e    api.Errno
	}{
		{"the chapter's example", old(), from(3000, 6000), api.OK},
		{"no entries", oldWith(), from(1000, 6000), api.OK},
		{"just half", oldWith(half(), entry("most", 1, 0, 2)), from(3000, 3600), api.OK},
		{"rounded", oldWith(entry("x", -2, 0, -3), entry("y", 2, 0, 3)), from(3666, 4400), api.OK},
		{"rounded at both ends", oldWith(entry("x", -1, 0, -7), entry("y", 1, 0, 7)), from(1571, 1886), api.OK},
		{"one part", alone(), from(1000, 1200), api.OK},
		{"no mix", clashing(), api.Range{}, api.ErrNone},
	} {
		age, e := AgeOf(x.b)
		want(t, x.what, age, e, x.age, x.e)
	}
	for e, wrong := range wrongBooks() {
		age, f := AgeOf(wrong)
		refused(t, "a wrong book", age, f, e)
	}
}

// TestAnswerStays: R3.
func TestAnswerStays(t *testing.T) {
	b := old()
	x, _ := Least(b, mean())
	for _, l := range [][]int{x.Mix.Parts, x.Proof.Weights} {
		_ = append(l, 7)
		for n := range l {
			l[n] = 7
		}
	}
	want(t, "the book", b, 0, old(), 0)
	again, e := Least(b, mean())
	want(t, "the answer", again.Mix, e, mix(2, 1, 1), api.OK)
}
