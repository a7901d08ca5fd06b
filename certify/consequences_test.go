package certify

import (
	"fmt"
	"math/big"
	"math/rand"
	"slices"
	"strings"
	"testing"

	"criadera/api"
	"criadera/lowest"
	"criadera/rows"
)

// isLowest tells whether numbers have no common divisor above 1.
func isLowest(den int, l ...int) bool { return den > 0 && lowest.Divisor(append(l, den)...) == 1 }

func toldAs(x *big.Rat) [2]int { return [2]int{int(x.Num().Int64()), int(x.Denom().Int64())} }

// TestLeastPlainly: P5.3, and P5.9: the value is that of the mix, the bound of the proof, and the least one that there is.
func TestLeastPlainly(t *testing.T) {
	r := rand.New(rand.NewSource(1))
	none := 0
	for range 800 {
		b, a := someBook(r, 5, 5), someAsk(r)
		plain := plainLeast(b, plainWorths(b, a))
		x, e := Least(b, a)
		if plain == nil {
			refused(t, fmt.Sprint(b), x, e, api.ErrNone)
			none++
			continue
		}
		what := fmt.Sprintf("%+v of %+v: %+v", a, b, x)
		want(t, what, x.Value, e, toldAs(plain), api.OK)
		bound, ok := plainBound(b, plainWorths(b, a), x.Proof)
		if !plainPermits(b, sharesOf(x.Mix)) || sumOf(sharesOf(x.Mix), plainWorths(b, a)).Cmp(plain) != 0 || !ok || bound.Cmp(plain) != 0 || slices.Min(append(slices.Clone(x.Proof.Weights), 0)) < 0 {
			t.Error(what)
		}
		if !isLowest(x.Mix.Den, x.Mix.Parts...) || !isLowest(x.Proof.Den, append(slices.Clone(x.Proof.Weights), x.Proof.Level)...) {
			t.Errorf("not in lowest terms: %s", what)
		}
		n, e := CheckMix(b, x.Mix)
		want(t, what, n, e, 0, api.OK)
		value, e := ValueOf(b, a, x.Mix)
		want(t, what, value, e, x.Value, api.OK)
		value, e = CheckProof(b, a, x.Proof)
		want(t, what, value, e, x.Value, api.OK)
	}
	if none < 50 || none > 500 {
		t.Errorf("%d books permit no mix", none)
	}
}

// TestLeastOfTheGreatest: P5.3 of books with as many parts and entries as there may be: the mix and the proof show that each other is best.
func TestLeastOfTheGreatest(t *testing.T) {
	r := rand.New(rand.NewSource(2))
	permitted := 0
	for range 1000 {
		b := someBook(r, 5, 8)
		if len(b.Parts) < 5 || len(b.Entries) < 6 {
			continue
		}
		x, e := Least(b, mean())
		if e == api.ErrNone {
			p, e := Clash(b)
			if !plainClashes(b, p) || !isLowest(p.Den, append(slices.Clone(p.Weights), p.Level)...) {
				t.Errorf("%+v: %+v, %d", b, p, e)
			}
			continue
		}
		permitted++
		bound, ok := plainBound(b, plainWorths(b, mean()), x.Proof)
		if !ok || !plainPermits(b, sharesOf(x.Mix)) || sumOf(sharesOf(x.Mix), plainWorths(b, mean())).Cmp(bound) != 0 || toldAs(bound) != x.Value {
			t.Errorf("%+v: %+v", b, x)
		}
	}
	if permitted < 20 {
		t.Errorf("only %d books permit a mix", permitted)
	}
}

// TestRangesPlainly: P5.4, and P5.6 of Agrees.
func TestRangesPlainly(t *testing.T) {
	r := rand.New(rand.NewSource(3))
	answers := map[int]int{}
	for range 300 {
		b := someBook(r, 5, 4)
		greatest := func(worths []int) *big.Rat {
			x := plainLeast(b, rows.Opposites(worths))
			return x.Neg(x)
		}
		permits := plainLeast(b, make([]int, len(b.Parts))) != nil
		part := r.Intn(len(b.Parts))
		share, e := ShareOf(b, part)
		age, f := AgeOf(b)
		measured := from(r.Intn(5), 20-r.Intn(8))
		answer, g := Agrees(b, measured)
		answers[answer]++
		if !permits {
			refused(t, "a share", share, e, api.ErrNone)
			refused(t, "an age", age, f, api.ErrNone)
			want(t, "carbon", answer, g, api.AnswerNo, api.OK)
			continue
		}
		shares := make([]int, len(b.Parts))
		shares[part] = 1
		var worths [4][]int
		for _, p := range b.Parts {
			for n, worth := range []int{p.Age.Lo, p.Age.Hi, p.Carbon.Lo, p.Carbon.Hi} {
				worths[n] = append(worths[n], worth)
			}
		}
		want(t, fmt.Sprintf("the share of %d in %+v", part, b), share, e, plainRange(plainLeast(b, shares), greatest(shares), 1000), api.OK)
		want(t, fmt.Sprintf("the age of %+v", b), age, f, plainRange(plainLeast(b, worths[0]), greatest(worths[1]), 100), api.OK)
		carbon, _ := WithCarbon(b, measured)
		plain := api.AnswerMaybe
		switch {
		case plainLeast(carbon, shares) == nil:
			plain = api.AnswerNo
		case plainLeast(b, worths[2]).Cmp(ratio(measured.Lo, 1)) >= 0 && greatest(worths[3]).Cmp(ratio(measured.Hi, 1)) <= 0:
			plain = api.AnswerYes
		}
		want(t, fmt.Sprintf("carbon of %v in %+v", measured, b), answer, g, plain, api.OK)
	}
	if answers[api.AnswerNo] < 25 || answers[api.AnswerMaybe] < 25 || answers[api.AnswerYes] < 10 {
		t.Errorf("the answers are %v", answers)
	}
}

// TestProofsPlainly: P5.3 and P5.5 of the functions that check, and P5.9: no permitted mix has a lesser value than a bound.
func TestProofsPlainly(t *testing.T) {
	r := rand.New(rand.NewSource(4))
	proofs, clashes := 0, 0
	for range 40000 {
		b, a := someBook(r, 3, 3), someAsk(r)
		p := proof(1+r.Intn(4), r.Intn(21)-10)
		for range b.Entries {
			p.Weights = append(p.Weights, r.Intn(5)*r.Intn(2))
		}
		bound, ok := plainBound(b, plainWorths(b, a), p)
		got, e := CheckProof(b, a, p)
		if !ok {
			refused(t, fmt.Sprint(b, a, p), got, e, api.ErrProof)
		} else {
			proofs++
			want(t, fmt.Sprint(b, a, p), got, e, toldAs(bound), api.OK)
			m := someMix(r, len(b.Parts))
			if value := sumOf(sharesOf(m), plainWorths(b, a)); plainPermits(b, sharesOf(m)) && value.Cmp(bound) < 0 {
				t.Errorf("%+v: %+v is worth %v, less than %v by %+v", b, m, value, bound, p)
			}
		}
		l, e := CheckClash(b, p)
		if !plainClashes(b, p) {
			refused(t, fmt.Sprint(b, p), l, e, api.ErrProof)
			continue
		}
		clashes++
		want(t, fmt.Sprint(b, p), l, e, hungOn(p), api.OK)
		x, e := Least(b, a)
		refused(t, fmt.Sprint(b), x, e, api.ErrNone)
	}
	if proofs < 5000 || clashes < 300 {
		t.Errorf("only %d proofs, %d of clashes", proofs, clashes)
	}
}

// TestMixesPlainly: P5.2.
func TestMixesPlainly(t *testing.T) {
	r := rand.New(rand.NewSource(5))
	permitted := 0
	for range 5000 {
		b, a := someBook(r, 5, 4), someAsk(r)
		m := someMix(r, len(b.Parts))
		value, e := ValueOf(b, a, m)
		want(t, fmt.Sprint(b, a, m), value, e, toldAs(sumOf(sharesOf(m), plainWorths(b, a))), api.OK)
		n, e := CheckMix(b, m)
		if plainPermits(b, sharesOf(m)) {
			permitted++
			want(t, fmt.Sprint(b, m), n, e, 0, api.OK)
			continue
		}
		first := slices.IndexFunc(b.Entries, func(x api.CertifyEntry) bool {
			return sumOf(sharesOf(m), x.Coefs).Cmp(ratio(x.Most, 1)) > 0
		})
		want(t, fmt.Sprint(b, m), n, e, first, api.ErrBreak)
	}
	if permitted < 500 {
		t.Errorf("only %d mixes are permitted", permitted)
	}
}

// TestClashOrMix: P5.11, and P5.5 of Clash and LeastClash.
func TestClashOrMix(t *testing.T) {
	r := rand.New(rand.NewSource(6))
	clashes := 0
	permitsNone := func(b api.CertifyBook) bool { return plainLeast(b, make([]int, len(b.Parts))) == nil }
	for range 300 {
		b := someBook(r, 4, 5)
		p, e := Clash(b)
		l, f := LeastClash(b)
		plain, clashing := plainFewest(b, permitsNone)
		if !clashing {
			refused(t, "a clash", p, e, api.ErrNone)
			refused(t, "the least clash", l, f, api.ErrNone)
			continue
		}
		clashes++
		if e != api.OK || !plainClashes(b, p) || slices.Min(p.Weights) < 0 || !isLowest(p.Den, append(slices.Clone(p.Weights), p.Level)...) {
			t.Errorf("%+v: %+v, %d", b, p, e)
		}
		hung, e := CheckClash(b, p)
		want(t, fmt.Sprint(b), hung, e, hungOn(p), api.OK)
		want(t, fmt.Sprint(b), l, f, plain, api.OK)
		alone, _ := Only(b, l)
		if !permitsNone(alone) {
			t.Errorf("%+v: %v permit a mix", b, l)
		}
		for n := range l {
			less, _ := Only(b, slices.Delete(slices.Clone(l), n, n+1))
			if permitsNone(less) {
				t.Errorf("%+v: %v without number %d permit no mix", b, l, n)
			}
		}
	}
	if clashes < 30 || clashes > 250 {
		t.Errorf("%d clashes", clashes)
	}
}

// TestLeastGroundPlainly: P5.5.
func TestLeastGroundPlainly(t *testing.T) {
	r := rand.New(rand.NewSource(7))
	sizes := map[int]int{}
	for range 300 {
		b, a := someBook(r, 4, 4), someAsk(r)
		least := plainLeast(b, plainWorths(b, a))
		unit, value := 1, r.Intn(1001)
		if a.Kind == api.CertifyShare {
			unit = 1000
		}
		if least != nil && r.Intn(5) > 0 {
			value = plainRange(least, least, unit).Lo
		}
		has := func(b api.CertifyBook) bool {
			x := plainLeast(b, plainWorths(b, a))
			return x == nil || x.Mul(x, ratio(unit, 1)).Cmp(ratio(value, 1)) >= 0
		}
		plain, ok := plainFewest(b, has)
		l, e := LeastGround(b, a, value)
		if !ok {
			refused(t, fmt.Sprint(b, a, value), l, e, api.ErrNone)
			continue
		}
		sizes[len(l)]++
		want(t, fmt.Sprintf("%+v %+v %d", b, a, value), l, e, plain, api.OK)
	}
	if sizes[0] < 10 || sizes[1] < 10 || sizes[2] < 5 {
		t.Errorf("the sizes are %v", sizes)
	}
}

// TestCertified: P5.7 and P5.10.
func TestCertified(t *testing.T) {
	r := rand.New(rand.NewSource(8))
	issued := 0
	for range 2000 {
		b, a := someBook(r, 5, 6), someAsk(r)
		c, e := Issue(b, a, "old")
		if e != api.OK {
			refused(t, fmt.Sprint(b, a), c, e, api.ErrNone)
			continue
		}
		issued++
		want(t, fmt.Sprint(b, a, c), c.Ask, CheckCertificate(b, c), a, api.OK)
		l, e := HangsOn(b, c)
		want(t, fmt.Sprint(b, a, c), l, e, hungOn(c.Proof), api.OK)
		more := c
		more.Value++
		want(t, fmt.Sprint(b, a, more), CheckCertificate(b, more), 0, moreError(more), 0)
		again, e := ParseCertificate(FormatCertificate(c))
		want(t, fmt.Sprint(c), again, e, asRead(c), api.OK)
		if len(b.Entries) == 0 {
			continue
		}
		b.Entries = append(b.Entries, entry("more", r.Intn(41)-20, slices.Repeat([]int{r.Intn(41) - 20}, len(b.Parts))...))
		c.Proof.Weights = append(c.Proof.Weights, 0)
		want(t, fmt.Sprint(b, a, c), CheckCertificate(b, c), 0, api.OK, 0)
	}
	if issued < 500 {
		t.Errorf("only %d certificates", issued)
	}
}

// asRead is a certificate as it is read from its text, in which the age of a mean does not stand.
func asRead(c api.CertifyCertificate) api.CertifyCertificate {
	if c.Ask.Kind == api.CertifyMean {
		c.Ask.Age = 0
	}
	return c
}

// moreError is the error of a certificate of more than there is.
func moreError(c api.CertifyCertificate) api.Errno {
	if c.Value > 1000 {
		return api.ErrRange
	}
	return api.ErrBreak
}

// TestMoreIsKnown: P5.12.
func TestMoreIsKnown(t *testing.T) {
	r := rand.New(rand.NewSource(9))
	compared := 0
	for range 1500 {
		b, a := someBook(r, 5, 6), someAsk(r)
		if len(b.Entries) == 0 {
			continue
		}
		last := len(b.Entries) - 1
		less, _ := Joined(api.CertifyBook{Parts: b.Parts}, api.CertifyBook{Parts: b.Parts, Entries: b.Entries[:last]})
		x, e := Least(b, a)
		y, f := Least(less, a)
		if e != api.OK {
			continue
		}
		if f != api.OK || x.Value[0]*y.Value[1] < y.Value[0]*x.Value[1] {
			t.Errorf("%+v: %v without the last entry, %d, %v with it", b, y.Value, f, x.Value)
		}
		for part := range b.Parts {
			narrow, _ := ShareOf(b, part)
			wide, _ := ShareOf(less, part)
			if narrow.Lo < wide.Lo || narrow.Hi > wide.Hi {
				t.Errorf("%+v: the share of %d is %v without the last entry, %v with it", b, part, wide, narrow)
			}
			compared++
		}
	}
	if compared < 1000 {
		t.Errorf("only %d shares", compared)
	}
}

// garbled puts a few pieces into a text, in the place of others.
func garbled(r *rand.Rand, text string) string {
	pieces := []string{"", " ", "a", "0", "-", "9", "-5", " 5", "\n", "part", "entry", "share", "mean", "\xff"}
	for range r.Intn(3) {
		at := r.Intn(len(text) + 1)
		text = text[:at] + pieces[r.Intn(len(pieces))] + text[min(len(text), at+r.Intn(3)):]
	}
	return text
}

// TestTextsAgain: P5.13, and P5.8: what is read is written in the same way again, and each wrong line is a line of the text.
func TestTextsAgain(t *testing.T) {
	r := rand.New(rand.NewSource(10))
	books, certificates := 0, 0
	for range 5000 {
		b := someBook(r, 5, 8)
		text, e := Print(b)
		got, n, f := Parse(text)
		want(t, text, got, e, b, f)
		want(t, text, n, e, 0, api.OK)
		text = garbled(r, text)
		got, n, e = Parse(text)
		if e != api.OK {
			refused(t, text, got, 0, 0)
			if (e == api.ErrSyntax) != (n > 0) || n > 1+strings.Count(text, "\n") {
				t.Errorf("%q: %d, %d", text, n, e)
			}
		} else {
			books++
			again, e := Print(got)
			want(t, "the text again", again, e, text, api.OK)
		}
		c := api.CertifyCertificate{Name: "old", Ask: someAsk(r), Value: r.Intn(1001), Proof: proof(1+r.Intn(api.MaxCertifyDen), r.Intn(2*api.MaxCertifyDen+1)-api.MaxCertifyDen)}
		for range r.Intn(9) {
			c.Proof.Weights = append(c.Proof.Weights, r.Intn(api.MaxCertifyDen+1))
		}
		text = FormatCertificate(c)
		read, e := ParseCertificate(text)
		want(t, text, read, e, asRead(c), api.OK)
		text = garbled(r, text)
		if read, e = ParseCertificate(text); e != api.OK {
			refused(t, text, read, 0, 0)
			continue
		}
		certificates++
		want(t, "the text again", FormatCertificate(read), 0, text, 0)
	}
	if books < 1000 || certificates < 1000 {
		t.Errorf("only %d books and %d certificates were right", books, certificates)
	}
}

// TestArgumentsStay: R3: no function writes into a book, a mix or a proof.
func TestArgumentsStay(t *testing.T) {
	b, c, m := clashing(), certificate(), mix(2, 1, 1)
	kept := copied(b)
	p := proof(1, 0, 1, 1)
	c.Proof = proof(1, 10, 1000, 980)
	CheckMix(b, m)
	ValueOf(b, mean(), m)
	CheckProof(b, mean(), p)
	Least(b, mean())
	ShareOf(b, 0)
	AgeOf(b)
	l, _ := CheckClash(b, p)
	l[0] = 7
	found, _ := Clash(b)
	found.Weights[0] = 7
	l, _ = LeastClash(b)
	l[0] = 7
	l, _ = LeastGround(b, mean(), 30)
	l[0] = 7
	Agrees(b, from(4, 5))
	Issue(b, mean(), "old")
	l, _ = HangsOn(b, c)
	l[0] = 7
	want(t, "the book", b, 0, kept, 0)
	want(t, "the mix", m, 0, mix(2, 1, 1), 0)
	want(t, "the proof", p, 0, proof(1, 0, 1, 1), 0)
	want(t, "the certificate's proof", c.Proof, 0, proof(1, 10, 1000, 980), 0)
}
