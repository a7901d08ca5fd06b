package certify

import (
	"fmt"
	"testing"

	"criadera/api"
)

// TestWithCarbon: P5.6.
func TestWithCarbon(t *testing.T) {
	carbon := func(lo, hi int) []api.CertifyEntry {
		return []api.CertifyEntry{entry("carbon-most", hi, 5, 1), entry("carbon-least", -lo, -6, -2)}
	}
	for _, x := range []struct {
		what     string
		b        api.CertifyBook
		measured api.Range
		want     api.CertifyBook
	}{
		{"the chapter's example", old(), from(4, 5), oldWith(append([]api.CertifyEntry{half()}, carbon(4, 5)...)...)},
		{"no entries", oldWith(), from(0, 20), oldWith(carbon(0, 20)...)},
		{"a book that permits no mix", clashing(), from(20, 20), oldWith(append(clashing().Entries, carbon(20, 20)...)...)},
		{"the most entries", oldWith(entriesOf(6)...), from(0, 0), oldWith(append(entriesOf(6), carbon(0, 0)...)...)},
		{"names that are nearly those", oldWith(entry("carbon", 0, 0, 0), entry("Carbon-most", 0, 0, 0)), from(1, 2), oldWith(append([]api.CertifyEntry{entry("carbon", 0, 0, 0), entry("Carbon-most", 0, 0, 0)}, carbon(1, 2)...)...)},
	} {
		got, e := WithCarbon(x.b, x.measured)
		want(t, x.what, got, e, x.want, api.OK)
	}
}

// TestWrongCarbon: P5.6, of both functions.
func TestWrongCarbon(t *testing.T) {
	most, least := entry("carbon-most", 0, 0, 0), entry("carbon-least", 0, 0, 0)
	seven := append(entriesOf(6), most)
	asked := func(what string, b api.CertifyBook, measured api.Range, e api.Errno) {
		t.Helper()
		got, f := WithCarbon(b, measured)
		refused(t, "WithCarbon: "+what, got, f, e)
		answer, f := Agrees(b, measured)
		refused(t, "Agrees: "+what, answer, f, e)
	}
	asked("one name", oldWith(most), from(4, 5), api.ErrExists)
	asked("the other name", oldWith(least), from(4, 5), api.ErrExists)
	asked("both names", oldWith(half(), few(), least, most), from(4, 5), api.ErrExists)
	asked("a name among too many", oldWith(seven...), from(4, 5), api.ErrExists)
	asked("too many", oldWith(entriesOf(7)...), from(4, 5), api.ErrFull)
	asked("far too many", oldWith(entriesOf(8)...), from(4, 5), api.ErrFull)
	for _, x := range wrongRanges(api.MaxCertifyCarbon) {
		asked(fmt.Sprint(x.r), oldWith(seven...), x.r, x.e)
	}
	for e, wrong := range wrongBooks() {
		asked("a wrong book", wrong, from(-1, 0), e)
	}
}

// TestAgrees: P5.6.
func TestAgrees(t *testing.T) {
	justHalf := oldWith(half(), entry("most", 1, 0, 2))
	for _, x := range []struct {
		what     string
		b        api.CertifyBook
		measured api.Range
		answer   int
	}{
		{"the chapter's example", old(), from(4, 5), api.AnswerMaybe},
		{"all that may be", old(), from(1, 4), api.AnswerYes},
		{"more than may be", old(), from(0, 20), api.AnswerYes},
		{"perhaps less", old(), from(2, 20), api.AnswerMaybe},
		{"perhaps more", old(), from(0, 3), api.AnswerMaybe},
		{"surely less", old(), from(5, 9), api.AnswerNo},
		{"surely more", old(), from(0, 0), api.AnswerNo},
		{"the most of the wettest mix", old(), from(4, 4), api.AnswerMaybe},
		{"just half, and all it may have", justHalf, from(3, 4), api.AnswerYes},
		{"just half, not its least", justHalf, from(4, 20), api.AnswerMaybe},
		{"just half, not its most", justHalf, from(0, 3), api.AnswerMaybe},
		{"just half, too much", justHalf, from(5, 20), api.AnswerNo},
		{"just half, too little", justHalf, from(0, 2), api.AnswerNo},
		{"no entries", oldWith(), from(1, 6), api.AnswerYes},
		{"no entries, the least is not measured", oldWith(), from(2, 6), api.AnswerMaybe},
		{"one part", alone(), from(5, 6), api.AnswerYes},
		{"one part, one end", alone(), from(6, 7), api.AnswerMaybe},
		{"one part, beside it", alone(), from(7, 20), api.AnswerNo},
		{"no mix, and anything measured", clashing(), from(0, 20), api.AnswerNo},
	} {
		answer, e := Agrees(x.b, x.measured)
		want(t, x.what, answer, e, x.answer, api.OK)
	}
}
