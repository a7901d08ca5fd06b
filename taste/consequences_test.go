package taste

import (
	"fmt"
	"math/rand"
	"slices"
	"testing"

	"criadera/api"
)

// TestWalksOfSome: P7.2 and P7.7: a walk has one class more than marks, begins with that of fewer marks, and goes by the steps of the rule book.
func TestWalksOfSome(t *testing.T) {
	r := rand.New(rand.NewSource(1))
	for range 2000 {
		b := someBook(r, 6, 8)
		marks := someMarks(r, len(b.Marks), 40)
		walk, e := Walk(b, marks)
		if e != api.OK || len(walk) != len(marks)+1 {
			t.Fatalf("%+v by %v: %v, %d", b, marks, walk, e)
		}
		for n := range walk {
			if walk[n] != plainEnd(b, b.Begin, marks[:n]) {
				t.Fatalf("%+v by %v: %v", b, marks, walk)
			}
		}
		fewer := marks[:r.Intn(len(marks)+1)]
		begin, e := Walk(b, fewer)
		want(t, "the beginning", begin, e, walk[:len(fewer)+1], api.OK)
		name, e := ClassOf(b, sheet("x", marks...))
		want(t, "the class", name, e, b.Classes[walk[len(marks)]].Name, api.OK)
		reasons, e := ReasonsOf(b, sheet("x", marks...))
		if e != api.OK || len(reasons) != len(marks) {
			t.Fatalf("%+v by %v: %v, %d", b, marks, reasons, e)
		}
		for n, mark := range marks {
			want(t, "a reason", reasons[n], 0, b.Classes[walk[n]].Reasons[mark], 0)
		}
	}
}

// TestReachedBySome: P7.2 and P7.7: SheetTo returns the first marks of all that lead to a class, if any do.
func TestReachedBySome(t *testing.T) {
	r := rand.New(rand.NewSource(2))
	reached, unreached, trapped := 0, 0, 0
	for range 1000 {
		b := someBook(r, 3, 6)
		var all, stuck []int
		for n := range b.Classes {
			got, e := SheetTo(b, n)
			marks, ok := plainSheetTo(b, n)
			if !ok {
				unreached++
				refused(t, "not reached", got, e, api.ErrNone)
			} else {
				reached++
				all = append(all, n)
				want(t, "the first marks", got, e, marks, api.OK)
			}
			leaves := false
			for other, isBehind := range plainBehind(b, n) {
				leaves = leaves || isBehind && plainRank(b.Classes[other].Name) != plainRank(b.Classes[n].Name)
			}
			if !leaves {
				stuck = append(stuck, n)
			}
		}
		trapped += len(stuck)
		l, e := Reachable(b)
		want(t, "reachable", l, e, all, api.OK)
		l, e = Trapped(b)
		want(t, "trapped", l, e, stuck, api.OK)
	}
	if reached < 1000 || unreached < 300 || trapped < 300 {
		t.Errorf("%d were reached, %d not, %d trapped", reached, unreached, trapped)
	}
}

// TestToldApartOfSome: P7.3 and P7.8: Distinguish returns the first marks of all by which ranks differ; without such marks each sheet has a class of the same rank.
func TestToldApartOfSome(t *testing.T) {
	r := rand.New(rand.NewSource(3))
	apart, alike := 0, 0
	for range 1500 {
		a := someBook(r, 2, 5)
		b := somewhatOther(r, a)
		marks, ok := plainApart(a, b, len(a.Classes)+len(b.Classes))
		got, e := Distinguish(a, b)
		back, f := Distinguish(b, a)
		if ok {
			apart++
			want(t, "apart", got, e, marks, api.OK)
			want(t, "the other way round", back, f, marks, api.OK)
			continue
		}
		alike++
		refused(t, "alike", got, e, api.ErrNone)
		refused(t, "the other way round", back, f, api.ErrNone)
		sameRanks(t, a, b, someMarks(r, len(a.Marks), 40))
		got, e = Distinguish(a, a)
		refused(t, "itself", got, e, api.ErrNone)
	}
	if apart < 300 || alike < 300 {
		t.Errorf("%d were told apart, %d were alike", apart, alike)
	}
}

// sameRanks asks for classes of one rank for a sheet.
func sameRanks(t *testing.T, a, b api.TasteBook, marks []int) {
	t.Helper()
	one, e := ClassOf(a, sheet("x", marks...))
	other, f := ClassOf(b, sheet("x", marks...))
	want(t, fmt.Sprint("the rank by ", marks), plainRank(other), f, plainRank(one), e)
}

// TestToldApartByOneMark: P7.8: of all pairs of classes, which come again and again.
func TestToldApartByOneMark(t *testing.T) {
	r := rand.New(rand.NewSource(4))
	longest := 0
	for range 3000 {
		a, b := someBook(r, 1, 8), someBook(r, 1, 8)
		got, e := Distinguish(a, b)
		marks, ok := plainApart(a, b, 64)
		if !ok {
			refused(t, "alike", got, e, api.ErrNone)
			continue
		}
		want(t, "apart", got, e, marks, api.OK)
		longest = max(longest, len(got))
	}
	if longest < 4 {
		t.Errorf("none needs more than %d marks", longest)
	}
}

// TestLeastOfSome: P7.3 and P7.9: the least rule book is that of the chapter's definition, no larger than what is reached, alike, and the least one of itself.
func TestLeastOfSome(t *testing.T) {
	r := rand.New(rand.NewSource(5))
	joins, lost := 0, 0
	for range 1500 {
		b := someBook(r, 3, 6)
		sets, e := Alike(b)
		want(t, "the sets", sets, e, plainAlike(b), api.OK)
		least, e := Least(b)
		want(t, "the least one", least, e, plainLeast(b), api.OK)
		reached, _ := Reachable(b)
		if len(least.Classes) > len(reached) {
			t.Fatalf("%+v: %+v", b, least)
		}
		joins += len(reached) - len(least.Classes)
		lost += len(b.Classes) - len(reached)
		again, e := Least(least)
		want(t, "the least one of it", again, e, least, api.OK)
		sameRanks(t, b, least, someMarks(r, len(b.Marks), 40))
		marks, e := Distinguish(b, least)
		refused(t, "alike", marks, e, api.ErrNone)
		other, e := Least(turned(r, b))
		want(t, "as many classes in another order", len(other.Classes), e, len(least.Classes), api.OK)
		for n, c := range other.Classes {
			want(t, "the same steps in another order", c.Next, 0, least.Classes[n].Next, 0)
			want(t, "the same rank in another order", plainRank(c.Name), 0, plainRank(least.Classes[n].Name), 0)
		}
	}
	if joins < 500 || lost < 500 {
		t.Errorf("%d classes were joined, %d left out", joins, lost)
	}
}

// TestPanelsOfSome: P7.4 and P7.10, by the chapter's definitions.
func TestPanelsOfSome(t *testing.T) {
	r := rand.New(rand.NewSource(6))
	for range 2000 {
		p, least := somePanel(r), someShare(r)
		var steady []int
		for taster := range p.Tasters {
			s, e := SteadyOf(p, taster)
			want(t, "steadiness", s, e, plainSteady(p, taster), api.OK)
			if s.Same*least.Den >= least.Num*s.Of {
				steady = append(steady, taster)
			}
			f, e := AgreementOf(p, taster, taster)
			want(t, "with itself", f, e, share(1, 1), api.OK)
		}
		l, e := Steadiest(p, least)
		want(t, "the steady ones", l, e, steady, api.OK)
		a, b := r.Intn(len(p.Tasters)), r.Intn(len(p.Tasters))
		f, e := AgreementOf(p, a, b)
		back, g := AgreementOf(p, b, a)
		want(t, "the other way round", back, g, f, e)
		same := 0
		for glass, mark := range p.Tasters[a] {
			if p.Tasters[b][glass] == mark {
				same++
			}
		}
		if e != api.OK || f.Num*len(p.Glasses) != same*f.Den || shareError(f) != api.OK {
			t.Fatalf("%+v: %v of %d and %d", p, f, a, b)
		}
		more := someShare(r)
		if more.Num*least.Den < least.Num*more.Den {
			more, least = least, more
		}
		few, _ := Steadiest(p, more)
		many, _ := Steadiest(p, least)
		for _, taster := range few {
			if !slices.Contains(many, taster) {
				t.Fatalf("%+v: %v for %v, %v for %v", p, few, more, many, least)
			}
		}
	}
}

// TestCountsOfSome: P7.5 and P7.11, by the chapter's definitions.
func TestCountsOfSome(t *testing.T) {
	r := rand.New(rand.NewSource(7))
	marked, unmarked := 0, 0
	for range 2000 {
		p, least := somePanel(r), someShare(r)
		cask, tasters := r.Intn(p.Casks), someTasters(r, p)
		sums := make([]int, p.Marks)
		glasses, given := 0, 0
		for _, taster := range tasters {
			alone, e := CountsOf(p, cask, numbers(taster))
			want(t, "by one alone", alone, e, plainCounts(p, taster)[cask], api.OK)
			for mark, count := range alone {
				sums[mark] += count
				given += count
			}
		}
		for _, c := range p.Glasses {
			if c == cask {
				glasses++
			}
		}
		counts, e := CountsOf(p, cask, tasters)
		want(t, "the sums", counts, e, sums, api.OK)
		want(t, "what they come to", given, 0, glasses*len(tasters), 0)
		mark, e := MarkOf(p, cask, tasters)
		if plainMark(sums) < 0 {
			unmarked++
			refused(t, "no mark", mark, e, api.ErrNone)
		} else {
			marked++
			want(t, "the mark", mark, e, plainMark(sums), api.OK)
		}
		steady, _ := Steadiest(p, least)
		all, e := Marked(p, least)
		want(t, "how many are marked", len(all), e, p.Casks, api.OK)
		for cask, mark := range all {
			sums, _ := CountsOf(p, cask, steady)
			want(t, "what the panel marks", mark, 0, plainMark(sums), 0)
		}
	}
	if marked < 500 || unmarked < 500 {
		t.Errorf("%d casks were marked, %d were not", marked, unmarked)
	}
}

// TestGlassesInAnotherOrder: P7.10: the order of the glasses changes nothing.
func TestGlassesInAnotherOrder(t *testing.T) {
	r := rand.New(rand.NewSource(8))
	for range 1000 {
		p, least := somePanel(r), someShare(r)
		other := api.TastePanel{Casks: p.Casks, Marks: p.Marks, Tasters: make([][]int, len(p.Tasters))}
		for _, glass := range r.Perm(len(p.Glasses)) {
			other.Glasses = append(other.Glasses, p.Glasses[glass])
			for taster, marks := range p.Tasters {
				other.Tasters[taster] = append(other.Tasters[taster], marks[glass])
			}
		}
		for a := range p.Tasters {
			s, e := SteadyOf(p, a)
			got, f := SteadyOf(other, a)
			want(t, "steadiness", got, f, s, e)
			for b := range p.Tasters {
				agreement, e := AgreementOf(p, a, b)
				got, f := AgreementOf(other, a, b)
				want(t, "agreement", got, f, agreement, e)
			}
		}
		for cask := range p.Casks {
			tasters := someTasters(r, p)
			counts, e := CountsOf(p, cask, tasters)
			got, f := CountsOf(other, cask, tasters)
			want(t, "counts", got, f, counts, e)
			mark, e := MarkOf(p, cask, tasters)
			n, f := MarkOf(other, cask, tasters)
			want(t, "the mark", n, f, mark, e)
		}
		marks, e := Marked(p, least)
		got, f := Marked(other, least)
		want(t, "what the panel marks", got, f, marks, e)
	}
}

// TestTextsOfSome: P7.12.
func TestTextsOfSome(t *testing.T) {
	r := rand.New(rand.NewSource(9))
	for range 2000 {
		b := someBook(r, 6, 8)
		got, n, e := ParseBook(FormatBook(b))
		want(t, "the rule book", got, e, b, api.OK)
		want(t, "the number", n, 0, 0, 0)
		s := sheet(fmt.Sprint("butt-", r.Intn(1000)), someMarks(r, 6, 40)...)
		back, e := ParseSheet(FormatSheet(s))
		want(t, "the sheet", back, e, s, api.OK)
	}
}
