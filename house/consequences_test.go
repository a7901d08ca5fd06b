package house

import (
	"fmt"
	"math/rand"
	"slices"
	"strings"
	"testing"

	"criadera/api"
	"criadera/certify"
	"criadera/flor"
	"criadera/gauge"
	"criadera/scale"
	"criadera/taste"
)

func pick[T any](r *rand.Rand, l []T) T { return l[r.Intn(len(l))] }

// someCask is a name, mostly of a cask that there is.
func someCask(r *rand.Rand, p *plainBook) string {
	if len(p.casks) == 0 || r.Intn(12) == 0 {
		return pick(r, words("a", "b", "c", "d", "x", "9"))
	}
	return pick(r, p.casks).name
}

// someAct is the text of a random act.
func someAct(r *rand.Rand, p *plainBook) string {
	one, other := someCask(r, p), someCask(r, p)
	volume := pick(r, numbers(1, 2, 5, 10, 20, 50, 100, 1+r.Intn(100), 0))
	switch r.Intn(10) {
	case 0, 1:
		return fmt.Sprint("cask ", pick(r, words("a", "b", "c", "d")), " ", 100+r.Intn(300))
	case 2, 3, 4:
		return fmt.Sprint("fill ", one, " ", pick(r, numbers(0, 1, 2, 3, 400, 401, 402, 403)), " ", volume)
	case 5:
		return fmt.Sprint("move ", one, " ", other, " ", volume)
	case 6:
		return fmt.Sprint("lose ", one, " ", min(volume, 5))
	case 7:
		return fmt.Sprint("join ", one, " ", other)
	}
	return fmt.Sprint("draw ", one, " ", volume)
}

// someText is the text of a random entry, mostly right behind the book.
func someText(r *rand.Rand, p *plainBook) string {
	cask, day := someCask(r, p), max(0, p.day-r.Intn(30))
	switch r.Intn(22) {
	case 0:
		return fmt.Sprint("day ", p.day+r.Intn(400)-5)
	case 1:
		return fmt.Sprint("duty ", r.Intn(12)-1)
	case 2:
		return fmt.Sprint("pay ", r.Intn(max(3, p.due-p.paid))+r.Intn(2))
	case 3:
		return "seal " + cask
	case 4, 5:
		return "open " + cask
	case 6, 7:
		volume := r.Intn(200)
		return fmt.Sprint("gauge ", cask, " ", p.day-r.Intn(8)/7, " ", volume, " ", volume+r.Intn(100))
	case 8:
		return fmt.Sprint("sheet ", cask, " ", pick(r, words("-", "0", "1", "1,0", "0,1,1", "2", "1,")))
	case 9:
		return fmt.Sprint("loss ", cask, " ", day, " ", day+r.Intn(20), " ", r.Intn(4), " ", r.Intn(12))
	case 10:
		return fmt.Sprint("part ", pick(r, words("x", "y", "z")), " ", r.Intn(30), " ", 30+r.Intn(30), " 1 2")
	case 11:
		return "entry " + pick(r, words("e", "f", "g")) + " 1" + strings.Repeat(" 1", r.Intn(3))
	case 12:
		return fmt.Sprint("certify ", pick(r, words("c", "d")), " mean 0 1 0", strings.Repeat(" 0", len(p.old)*r.Intn(2)))
	}
	return someAct(r, p)
}

// someEntry is a random entry, mostly by somebody who may make it, and well written.
func someEntry(r *rand.Rand, p *plainBook) api.HouseEntry {
	text := someText(r, p)
	switch r.Intn(25) {
	case 0:
		text = strings.Replace(text, " ", pick(r, words("  ", "\n", "\t", "")), 1)
	case 1:
		text += pick(r, words(" ", " 1", "\n", " a", "1"))
	}
	by := pick(r, words("ann", "tom", "cy", "ivy", "ivy", "ivy", "ivy", "ivy", "ivy", "ivy", "ivy", "ivy"))
	if r.Intn(40) == 0 {
		by = pick(r, words("zoe", "", "ann ", "an"))
	}
	return api.HouseEntry{By: by, Text: text}
}

// someLog is a random right log behind some casks, with what it comes to in a plain way.
func someLog(t *testing.T, r *rand.Rand, tries int) ([]api.HouseEntry, *plainBook) {
	t.Helper()
	p := newPlain()
	var log []api.HouseEntry
	for _, x := range entries("ann cask a 200", "ann fill a 1 150", "ivy duty 2") {
		want(t, x.Text, 0, p.enter(x), 0, api.OK)
		log = append(log, x)
	}
	for range tries {
		if x := someEntry(r, p); p.enter(x) == api.OK {
			log = append(log, x)
		}
	}
	return log, p
}

// TestEntriesOfSome: P10.2: random entries are accepted, or have the errors, that the chapter tells.
func TestEntriesOfSome(t *testing.T) {
	r := rand.New(rand.NewSource(1))
	seen := map[api.Errno]int{}
	for range 150 {
		p := newPlain()
		var log []api.HouseEntry
		for range 60 {
			x := someEntry(r, p)
			e := p.enter(x)
			seen[e]++
			longer, f := Accept(home(), log, x)
			if e != api.OK {
				refused(t, fmt.Sprintf("%q behind %q", x, log), longer, f, e)
				continue
			}
			want(t, fmt.Sprintf("%q behind %q", x, log), longer, f, slices.Concat(log, []api.HouseEntry{x}), api.OK)
			log = append(log, x)
		}
	}
	for _, e := range []api.Errno{api.ErrMissing, api.ErrSyntax, api.ErrAllowed, api.ErrRange, api.ErrOrder, api.ErrBusy, api.ErrNone, api.ErrFull, api.ErrClash, api.ErrDouble, api.ErrState, api.ErrExists, api.ErrShape, api.ErrLarge, api.ErrName} {
		if seen[e] < 3 {
			t.Errorf("the error %d was seen %d times", e, seen[e])
		}
	}
	if seen[api.OK] < 3000 {
		t.Errorf("%d were accepted", seen[api.OK])
	}
}

// lines is the lines of what is in a list.
func lines[T any](l []T, text func(x T) string) []string {
	var out []string
	for _, x := range l {
		out = append(out, text(x))
	}
	return out
}

// TestStatesOfSome: P10.2, P10.4, P10.5 and P10.8: what random logs come to is what the chapter tells, drop by drop.
func TestStatesOfSome(t *testing.T) {
	r := rand.New(rand.NewSource(2))
	suspected, unexplained, sealed := 0, 0, 0
	for range 400 {
		log, p := someLog(t, r, 57)
		s := stateOf(t, log)
		want(t, "numbers", numbers(s.Day, s.Rate, s.Due, s.Paid), 0, numbers(p.day, p.rate, p.due, p.paid), 0)
		want(t, "the sealed casks", s.Sealed, 0, p.sealed, 0)
		want(t, "the gaugings", lines(s.Gaugings, gauge.FormatGauging), 0, p.gaugings, 0)
		want(t, "the losses", lines(s.Losses, flor.FormatLoss), 0, p.losses, 0)
		want(t, "the moves", lines(s.Moves, func(m api.GaugeMove) string { return fmt.Sprint(m) }), 0, p.moves, 0)
		want(t, "what is lost", lines(s.Lost, func(x api.HouseLost) string { return fmt.Sprintln(x.Day, x.Cask, x.Volume) }), 0, p.lose, 0)
		want(t, "the certificates", lines(s.Certificates, certify.FormatCertificate), 0, p.certificate, 0)
		old, _ := certify.Print(s.Old)
		want(t, "the old wine", old, 0, p.oldBook(), 0)
		want(t, "the sheets", lines(s.Sheets, taste.FormatSheet), 0, lines(p.marked, func(name string) string {
			return taste.FormatSheet(api.TasteSheet{Cask: name, Marks: p.cask(name).marks})
		}), 0)
		winesOf(t, s.Wine, p)
		blamed := answersOf(t, log, s, p)
		suspected, unexplained, sealed = suspected+min(1, blamed), unexplained+min(1, len(p.unexplained())), sealed+min(1, len(p.sealed))
	}
	if suspected < 50 || unexplained < 50 || sealed < 50 {
		t.Errorf("%d logs with suspects, %d with unexplained losses, %d with sealed casks", suspected, unexplained, sealed)
	}
}

// winesOf holds all wine against the plain one, which is balanced in itself.
func winesOf(t *testing.T, s api.ScaleState, p *plainBook) {
	t.Helper()
	_, e := scale.CheckState(s)
	want(t, "the state", len(s.Casks), e, len(p.casks), api.OK)
	isLike := p.in.isLike(s.In) && p.sold.isLike(s.Sold) && p.lost.isLike(s.Lost)
	for n, c := range s.Casks {
		isLike = isLike && c.Name == p.casks[n].name && c.Capacity == p.casks[n].capacity && p.casks[n].wine.isLike(c.Wine)
	}
	want(t, "the wine", isLike, 0, true, 0)
}

// answersOf holds all that follows from a log against what is plain, and returns how many suspects there are.
func answersOf(t *testing.T, log []api.HouseEntry, s api.HouseState, p *plainBook) int {
	t.Helper()
	b, e := BalanceOf(home(), log)
	want(t, "every drop", b.In, e, b.Held+b.Sold+b.Lost, api.OK)
	book, e := BookOf(home(), log)
	want(t, "the book", book, e, api.GaugeBook{Loss: home().Loss, Readings: s.Gaugings, Moves: s.Moves}, api.OK)
	blamed, f := gauge.Blamed(book)
	suspects, e := Suspects(home(), log)
	want(t, "the suspects", suspects, e, blamed, f)
	told := "-"
	if f != api.OK {
		told = "many"
	} else if len(blamed) > 0 {
		told = strings.Trim(fmt.Sprint(blamed), "[]")
	}
	l, e := Unexplained(home(), log)
	want(t, "the unexplained losses", l, e, p.unexplained(), api.OK)
	text, e := Report(home(), log)
	want(t, "the report", text, e, p.report(told), api.OK)
	for _, c := range p.casks {
		line, e := Ask(home(), log, "cask "+c.name)
		want(t, "the line of a cask", line, e, p.line(c), api.OK)
		class, e := ClassOf(home(), log, c.name)
		if c.marks == nil {
			refused(t, "no class", class, e, api.ErrNone)
		} else {
			want(t, "the class", class, e, c.class(), api.OK)
		}
	}
	return len(suspects)
}

// TestHeldRoles: P10.9, P10.11 and P10.12: entry by entry, no role was broken and no sealed cask changed, no more is paid than is due, and certificates are right of a book that stays.
func TestHeldRoles(t *testing.T) {
	r := rand.New(rand.NewSource(3))
	kept, closed := 0, 0
	for range 100 {
		log, _ := someLog(t, r, 57)
		before := stateOf(t, nil)
		due, rate := 0, 0
		for n, x := range log {
			word, _, _ := strings.Cut(x.Text, " ")
			role := map[string]int{"ann": 0, "tom": 1, "cy": 2, "ivy": 3}[x.By]
			want(t, "a role", role >= roles()[word], 0, true, 0)
			s := stateOf(t, log[:n+1])
			for i, c := range before.Wine.Casks {
				if slices.Contains(before.Sealed, c.Name) {
					kept++
					want(t, "a sealed cask", s.Wine.Casks[i], 0, c, 0)
				}
			}
			fmt.Sscanf(x.Text, "duty %d", &rate)
			var cask string
			var volume int
			if k, _ := fmt.Sscanf(x.Text, "draw %s %d", &cask, &volume); k == 2 {
				due += volume * rate
			}
			want(t, "due", s.Due, 0, due, 0)
			want(t, "no more is paid", s.Paid <= s.Due, 0, true, 0)
			if len(before.Certificates) > 0 {
				closed++
				want(t, "the old wine", s.Old, 0, before.Old, 0)
			}
			for _, c := range s.Certificates {
				want(t, "a certificate", 0, certify.CheckCertificate(s.Old, c), 0, api.OK)
			}
			before = s
		}
	}
	if kept < 200 || closed < 200 {
		t.Errorf("%d sealed casks were kept, %d books were closed", kept, closed)
	}
}

// TestJournalsOfSome: P10.6 and P10.10: a journal that is cut, or changed, gives the beginning of the log that is whole, which is right.
func TestJournalsOfSome(t *testing.T) {
	r := rand.New(rand.NewSource(4))
	for range 200 {
		log, _ := someLog(t, r, 40)
		journal, e := Journal(log)
		want(t, "the journal", 0, e, 0, api.OK)
		sum, e := Sum(log)
		want(t, "the sum", sum, e, plainSum(log), api.OK)
		cut := r.Intn(len(journal) + 1)
		whole := strings.Count(journal[:cut], "\n")
		read, bytes, e := Recover(journal[:cut])
		want(t, "a journal that is cut", read, e, log[:whole], api.OK)
		want(t, "a journal that is cut", bytes, 0, strings.LastIndex(journal[:cut], "\n")+1, 0)
		n, e := CheckLog(home(), read)
		want(t, "a beginning", n, e, 0, api.OK)
		if cut < len(journal) {
			changed := []byte(journal)
			changed[cut] ^= byte(1 + r.Intn(255))
			read, bytes, e = Recover(string(changed))
			want(t, "a journal that is changed", read, e, log[:whole], api.OK)
			want(t, "a journal that is changed", bytes, 0, strings.LastIndex(journal[:cut], "\n")+1, 0)
		}
	}
}

// TestCopiesOfSome: P10.3 and P10.13: copies are exchangeable if both orders are right and come to the same; then Merged is right whichever is told first.
func TestCopiesOfSome(t *testing.T) {
	r := rand.New(rand.NewSource(5))
	exchangeable, different, wrong := 0, 0, 0
	for range 500 {
		common, _ := someLog(t, r, 15)
		b := branches(common, someBranch(r, common), someBranch(r, common))
		one, other := slices.Concat(b.Common, b.First, b.Second), slices.Concat(b.Common, b.Second, b.First)
		s, e := StateOf(home(), one)
		x, f := StateOf(home(), other)
		is := e == api.OK && f == api.OK && fmt.Sprint(s) == fmt.Sprint(x)
		got, g := Exchangeable(home(), b)
		want(t, "exchangeable", got, g, is, api.OK)
		l, g := Merged(home(), b)
		if e != api.OK {
			refused(t, "merged", l, g, e)
		} else {
			want(t, "merged", l, g, one, api.OK)
		}
		switch {
		case is:
			exchangeable++
			l, g = Merged(home(), branches(b.Common, b.Second, b.First))
			want(t, "merged in the other order", l, g, other, api.OK)
		case e == api.OK && f == api.OK:
			different++
		default:
			wrong++
		}
	}
	if exchangeable < 50 || different < 50 || wrong < 20 {
		t.Errorf("%d were exchangeable, %d were different, %d were wrong", exchangeable, different, wrong)
	}
}

// someBranch is random entries that are right behind a log.
func someBranch(r *rand.Rand, log []api.HouseEntry) []api.HouseEntry {
	p := newPlain()
	for _, x := range log {
		p.enter(x)
	}
	var l []api.HouseEntry
	for tries := 0; tries < 30 && len(l) < 3; tries++ {
		if x := someEntry(r, p); p.enter(x) == api.OK {
			l = append(l, x)
		}
	}
	return l[:min(len(l), r.Intn(4))]
}

// TestDesksOfSome: P10.7 and P10.10: what is entered and undone at a desk leaves no trace.
func TestDesksOfSome(t *testing.T) {
	r := rand.New(rand.NewSource(6))
	undone := 0
	for range 60 {
		d := deskOf(t, home(), nil)
		log, p := []api.HouseEntry(nil), newPlain()
		for range 50 {
			if r.Intn(4) == 0 {
				e := d.Undo()
				if len(log) == 0 {
					want(t, "nothing to undo", 0, e, 0, api.ErrNone)
					continue
				}
				undone++
				want(t, "undone", 0, e, 0, api.OK)
				log, p = log[:len(log)-1], newPlain()
				for _, x := range log {
					p.enter(x)
				}
			} else {
				x := someEntry(r, p)
				e := p.enter(x)
				want(t, "entered", 0, d.Enter(x), 0, e)
				if e == api.OK {
					log = append(log, x)
				}
			}
			want(t, "the log", d.Log(), 0, log, 0)
			answer, e := d.Ask("balance")
			want(t, "the balance", answer, e, fmt.Sprintf("%s %s %s %s", p.in.volume().RatString(), p.held().RatString(), p.sold.volume().RatString(), p.lost.volume().RatString()), api.OK)
		}
	}
	if undone < 300 {
		t.Errorf("%d were undone", undone)
	}
}
