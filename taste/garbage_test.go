package taste

import (
	"math"
	"math/rand"
	"slices"
	"testing"

	"criadera/api"
)

// wild is a number that is seldom right.
func wild(r *rand.Rand) int {
	all := numbers(0, 1, -1, 2, 3, 6, 7, 8, 9, 30, 31, 40, api.MaxPart, api.MaxPart+1, math.MinInt, math.MaxInt)
	return all[r.Intn(len(all))]
}

func wildList(r *rand.Rand, most int) []int {
	var l []int
	for range r.Intn(most + 1) {
		l = append(l, wild(r))
	}
	return l
}

func wildName(r *rand.Rand) string {
	all := words("", "a", "a-1", "9", "m0", "c0", "butt", "-", "a/b", "a b", "a\n", "abcdefghijklm", "\xff")
	return all[r.Intn(len(all))]
}

// wildBook is a random rule book, mostly right, of which some part is wild.
func wildBook(r *rand.Rand) api.TasteBook {
	b := someBook(r, 3, 5)
	switch c := &b.Classes[r.Intn(len(b.Classes))]; r.Intn(12) {
	case 0:
		b.Classes = b.Classes[:r.Intn(len(b.Classes))]
	case 1:
		b.Marks = b.Marks[:r.Intn(len(b.Marks))]
	case 2:
		b.Begin = wild(r)
	case 3:
		c.Name = wildName(r)
	case 4:
		c.Next = wildList(r, 4)
	case 5:
		c.Reasons = append(c.Reasons[1:], wildName(r))
	case 6:
		b.Marks[0] = wildName(r)
	case 7:
		b.Classes = slices.Repeat(b.Classes, 5)
	}
	return b
}

// wildPanel is a random panel, mostly right, of which some part is wild.
func wildPanel(r *rand.Rand) api.TastePanel {
	p := somePanel(r)
	switch taster := r.Intn(len(p.Tasters)); r.Intn(10) {
	case 0:
		p.Casks = wild(r)
	case 1:
		p.Marks = wild(r)
	case 2:
		p.Glasses = wildList(r, 5)
	case 3:
		p.Tasters = p.Tasters[:taster]
	case 4:
		p.Tasters[taster] = wildList(r, 5)
	case 5:
		p.Tasters = slices.Repeat(p.Tasters, 9)
	}
	return p
}

// wildText is the text of a rule book, some bytes of which are others.
func wildText(r *rand.Rand, text string) string {
	l := []byte(text)
	for range r.Intn(3) {
		if len(l) > 0 {
			l[r.Intn(len(l))] = " \n/-,amb0\xff"[r.Intn(10)]
		}
	}
	return string(l)
}

// TestGarbage: R1 and R2: whatever the arguments are, each function ends, and beside an error there is nothing.
func TestGarbage(t *testing.T) {
	r := rand.New(rand.NewSource(11))
	right, wrong := 0, 0
	seen := func(e api.Errno, isNothing bool) {
		t.Helper()
		if e == api.OK {
			right++
			return
		}
		wrong++
		if !isNothing {
			t.Errorf("something beside the error %d", e)
		}
	}
	isNoBook := func(b api.TasteBook) bool { return len(b.Marks)+len(b.Classes)+b.Begin == 0 }
	for range 5000 {
		b, s := wildBook(r), sheet(wildName(r), wildList(r, 3)...)
		_, e := CheckBook(b)
		seen(e, true)
		l, e := Walk(b, s.Marks)
		seen(e, len(l) == 0)
		name, e := ClassOf(b, s)
		seen(e, name == "")
		names, e := ReasonsOf(b, s)
		seen(e, len(names) == 0)
		l, e = Reachable(b)
		seen(e, len(l) == 0)
		l, e = SheetTo(b, wild(r))
		seen(e, len(l) == 0)
		l, e = Distinguish(b, wildBook(r))
		seen(e, len(l) == 0)
		sets, e := Alike(b)
		seen(e, len(sets) == 0)
		least, e := Least(b)
		seen(e, isNoBook(least))
		l, e = Trapped(b)
		seen(e, len(l) == 0)
		read, n, e := ParseBook(wildText(r, FormatBook(b)))
		seen(e, isNoBook(read) && (n == 0 || e == api.ErrSyntax))
		back, e := ParseSheet(wildText(r, FormatSheet(s)))
		seen(e, back.Cask == "" && len(back.Marks) == 0)
		p, share := wildPanel(r), share(wild(r), wild(r))
		_, e = CheckPanel(p)
		seen(e, true)
		steady, e := SteadyOf(p, wild(r))
		seen(e, steady == api.TasteSteady{})
		l, e = Steadiest(p, share)
		seen(e, len(l) == 0)
		f, e := AgreementOf(p, wild(r), wild(r))
		seen(e, f == api.Frac{})
		l, e = CountsOf(p, wild(r), wildList(r, 3))
		seen(e, len(l) == 0)
		n, e = MarkOf(p, wild(r), wildList(r, 3))
		seen(e, n == 0)
		l, e = Marked(p, share)
		seen(e, len(l) == 0)
	}
	if right < 10000 || wrong < 10000 {
		t.Errorf("%d calls were right, %d were not", right, wrong)
	}
}
