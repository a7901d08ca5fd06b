package certify

import (
	"fmt"
	"testing"

	"criadera/api"
)

// TestCheckBook: P5.1.
func TestCheckBook(t *testing.T) {
	zero := from(0, 0)
	one := []api.CertifyPart{part("a", zero, zero)}
	for _, x := range []struct {
		what string
		b    api.CertifyBook
		n    int
		e    api.Errno
	}{
		{"the chapter's example", old(), 0, api.OK},
		{"a book that permits no mix", clashing(), 0, api.OK},
		{"one part alone", alone(), 0, api.OK},
		{"the most parts", api.CertifyBook{Parts: partsOf(5)}, 0, api.OK},
		{"the most entries", oldWith(entriesOf(8)...), 0, api.OK},
		{"the greatest ranges", api.CertifyBook{Parts: []api.CertifyPart{part("abcdefghij-9", from(0, 400), from(0, 20))}}, 0, api.OK},
		{"the greatest numbers", oldWith(entry("x", 20, 20, -20), entry("y", -20, -20, 20)), 0, api.OK},
		{"an entry with the name of a part", oldWith(entry("a", 0, 0, 0)), 0, api.OK},
		{"the same entry by another name", oldWith(entry("x", 0, 0, 0), entry("y", 0, 0, 0)), 0, api.OK},
		{"no parts", api.CertifyBook{Entries: entriesOf(9)}, 0, api.ErrShape},
		{"too many parts", api.CertifyBook{Parts: append([]api.CertifyPart{{}}, partsOf(5)...)}, 0, api.ErrLarge},
		{"too many entries", oldWith(append([]api.CertifyEntry{{}}, entriesOf(8)...)...), 0, api.ErrLarge},
		{"a part is wrong, and there are too many entries", api.CertifyBook{Parts: []api.CertifyPart{part("a", zero, zero), {}}, Entries: entriesOf(9)}, 1, api.ErrName},
		{"a name twice", api.CertifyBook{Parts: append(partsOf(3), part("p1", from(-1, 0), zero))}, 3, api.ErrExists},
		{"an age ahead of carbon", api.CertifyBook{Parts: append(partsOf(1), part("x", from(5, 4), from(-1, 0)))}, 1, api.ErrOrder},
		{"the first wrong part", api.CertifyBook{Parts: []api.CertifyPart{part("a", zero, zero), part("b", zero, from(1, 0)), {}}}, 1, api.ErrOrder},
		{"an entry without a name", oldWith(half(), entry("", 0)), 1, api.ErrName},
		{"an entry twice", oldWith(half(), few(), entry("half", 0)), 2, api.ErrExists},
		{"no coefficients", oldWith(entry("x", 21)), 0, api.ErrShape},
		{"too few coefficients", oldWith(half(), entry("x", 0, 21)), 1, api.ErrShape},
		{"too many coefficients", oldWith(half(), entry("x", 0, 1, 2, 3)), 1, api.ErrShape},
		{"coefficients of one part", api.CertifyBook{Parts: one, Entries: []api.CertifyEntry{half()}}, 0, api.ErrShape},
		{"the first wrong entry", oldWith(half(), entry("x", 0, 21, 0), entry("", 0)), 1, api.ErrRange},
	} {
		n, e := CheckBook(x.b)
		want(t, x.what, n, e, x.n, x.e)
	}
	for _, name := range wrongNames() {
		n, e := CheckBook(api.CertifyBook{Parts: []api.CertifyPart{part("a", zero, zero), part(name, from(-1, 0), zero)}})
		want(t, name, n, e, 1, api.ErrName)
		n, e = CheckBook(oldWith(half(), few(), entry(name, 0)))
		want(t, name, n, e, 2, api.ErrName)
	}
	for _, x := range wrongRanges(api.MaxCertifyAge) {
		n, e := CheckBook(api.CertifyBook{Parts: []api.CertifyPart{part("a", zero, zero), part("b", x.r, zero)}})
		want(t, fmt.Sprint("the age ", x.r), n, e, 1, x.e)
	}
	for _, x := range wrongRanges(api.MaxCertifyCarbon) {
		n, e := CheckBook(api.CertifyBook{Parts: []api.CertifyPart{part("a", zero, zero), part("b", zero, x.r)}})
		want(t, fmt.Sprint("the carbon ", x.r), n, e, 1, x.e)
	}
	for _, number := range outside(-api.MaxCertifyCoef, api.MaxCertifyCoef) {
		for _, x := range []api.CertifyEntry{entry("x", number, 0, 0), entry("x", 0, number, 0), entry("x", 0, 0, number)} {
			n, e := CheckBook(oldWith(half(), x))
			want(t, fmt.Sprint(x), n, e, 1, api.ErrRange)
		}
	}
}

// TestCheckAsk: P5.1.
func TestCheckAsk(t *testing.T) {
	for a, e := range wrongAsks() {
		want(t, fmt.Sprint(a), CheckAsk(a), 0, e, 0)
	}
	for _, a := range []api.CertifyAsk{mean(), {Kind: api.CertifyMean, Age: 400}, share(0), share(400)} {
		want(t, fmt.Sprint(a), CheckAsk(a), 0, api.OK, 0)
	}
}

// TestOnly: P5.1.
func TestOnly(t *testing.T) {
	b := oldWith(entriesOf(4)...)
	for _, l := range [][]int{nil, {0}, {3}, {0, 2}, {1, 2, 3}, {0, 1, 2, 3}} {
		var entries []api.CertifyEntry
		for _, n := range l {
			entries = append(entries, b.Entries[n])
		}
		x, e := Only(b, l)
		want(t, fmt.Sprint(l), x, e, oldWith(entries...), api.OK)
	}
	for _, x := range []struct {
		l []int
		e api.Errno
	}{
		{[]int{-1}, api.ErrMissing}, {[]int{4}, api.ErrMissing}, {[]int{0, 4, 1}, api.ErrMissing}, {[]int{2, -1}, api.ErrMissing},
		{[]int{1, 0}, api.ErrOrder}, {[]int{1, 1}, api.ErrOrder}, {[]int{1, 0, 4}, api.ErrOrder},
	} {
		got, e := Only(b, x.l)
		refused(t, fmt.Sprint(x.l), got, e, x.e)
	}
	for e, wrong := range wrongBooks() {
		got, f := Only(wrong, []int{-1})
		refused(t, "a wrong book", got, f, e)
	}
}

// TestJoined: P5.1.
func TestJoined(t *testing.T) {
	x, e := Joined(old(), oldWith(few()))
	want(t, "the chapter's clash", x, e, clashing(), api.OK)
	x, e = Joined(oldWith(), oldWith())
	want(t, "no entries", x, e, oldWith(), api.OK)
	x, e = Joined(oldWith(half()), oldWith(entriesOf(7)...))
	want(t, "the most entries", x, e, oldWith(append([]api.CertifyEntry{half()}, entriesOf(7)...)...), api.OK)
	turned, older, named := old(), oldWith(few()), oldWith(few())
	turned.Parts[0], turned.Parts[1] = turned.Parts[1], turned.Parts[0]
	older.Parts[1].Age.Hi++
	named.Parts[0].Name = "c"
	for _, x := range []struct {
		what string
		a, b api.CertifyBook
		e    api.Errno
	}{
		{"the first one is wrong", oldWith(entry("x", 21, 0, 0)), api.CertifyBook{}, api.ErrRange},
		{"the second one is wrong", old(), oldWith(entry("half", 21, 0, 0)), api.ErrRange},
		{"other parts", old(), alone(), api.ErrClash},
		{"parts in another order", old(), turned, api.ErrClash},
		{"other ages", old(), older, api.ErrClash},
		{"other names", old(), named, api.ErrClash},
		{"other parts, and a name twice", old(), turned, api.ErrClash},
		{"a name twice", clashing(), oldWith(entry("few", 3, 0, 0)), api.ErrExists},
		{"a name twice among too many", oldWith(entriesOf(8)...), oldWith(entry("e7", 0, 0, 0)), api.ErrExists},
		{"too many", oldWith(entriesOf(8)...), old(), api.ErrFull},
	} {
		got, e := Joined(x.a, x.b)
		refused(t, x.what, got, e, x.e)
	}
}

// TestBooksStay: R3.
func TestBooksStay(t *testing.T) {
	b := clashing()
	spoil := func(x api.CertifyBook) {
		for n := range x.Entries {
			x.Entries[n].Name = "x"
			for i := range x.Entries[n].Coefs {
				x.Entries[n].Coefs[i] = 7
			}
			_ = append(x.Entries[n].Coefs, 7)
		}
		for n := range x.Parts {
			x.Parts[n] = api.CertifyPart{}
		}
	}
	x, _ := Only(b, []int{0, 1})
	spoil(x)
	x, _ = Joined(oldWith(), b)
	spoil(x)
	x, _ = Joined(b, oldWith())
	spoil(x)
	x, _ = WithCarbon(b, from(0, 20))
	spoil(x)
	want(t, "the book", b, 0, clashing(), 0)
}
