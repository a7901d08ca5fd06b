package house

import (
	"fmt"
	"math"
	"math/rand"
	"slices"
	"strings"
	"testing"

	"criadera/api"
)

// wild is a number that is seldom right.
func wild(r *rand.Rand) int {
	return pick(r, numbers(0, 1, -1, 2, 3, 4, 7, 400, math.MinInt, math.MaxInt))
}

// wildHouse is home, mostly, of which some part is wild.
func wildHouse(r *rand.Rand) api.House {
	h := home()
	switch r.Intn(12) {
	case 0:
		h.People[r.Intn(4)] = api.HousePerson{Name: pick(r, wrongNames()), Role: wild(r)}
	case 1:
		h.People = people(r.Intn(23))
	case 2:
		h.Rules.Classes[r.Intn(3)] = class(pick(r, words("a", "fino", "", "\xff")), numbers(wild(r), wild(r)), "x", "y")
	case 3:
		h.Rules.Marks = words(pick(r, words("m", "n", ""))+"x", "m")[:r.Intn(3)]
	case 4:
		h.Loss = within(wild(r), wild(r))
	}
	return h
}

// wildText is a random text of an entry, of which a few pieces may be others.
func wildText(r *rand.Rand, p *plainBook) string {
	text := someText(r, p)
	for range r.Intn(3) {
		at := r.Intn(len(text) + 1)
		text = text[:at] + pick(r, words("", " ", "a", "-", "0", "999999999", "9999999999999999999999", "\n", "\x00", "\xff", ",", "draw ", "certify", strings.Repeat("x", 300))) + text[min(len(text), at+r.Intn(3)):]
	}
	return text
}

// wildLog is a random log, mostly right, in which some entry may be wild.
func wildLog(t *testing.T, r *rand.Rand) []api.HouseEntry {
	log, p := someLog(t, r, 5)
	for r.Intn(3) == 0 {
		x := api.HouseEntry{By: pick(r, words("ann", "ivy", "", "zoe", "\xff", "a\nb")), Text: wildText(r, p)}
		log = slices.Insert(log, r.Intn(len(log)+1), x)
	}
	if r.Intn(20) == 0 {
		log = slices.Repeat(log, r.Intn(40))
	}
	return log
}

// TestGarbage: R1 and R2: whatever the arguments are, each function ends, and beside an error there is nothing.
func TestGarbage(t *testing.T) {
	r := rand.New(rand.NewSource(10))
	right, wrong := 0, 0
	seen := func(isNothing bool, e api.Errno) {
		t.Helper()
		if e == api.OK {
			right++
			return
		}
		wrong++
		if !isNothing {
			t.Errorf("something beside the error %d", e)
		}
	}
	for range 600 {
		h, log := wildHouse(r), wildLog(t, r)
		x := api.HouseEntry{By: pick(r, words("ann", "ivy", "zoe", "")), Text: wildText(r, newPlain())}
		for _, ask := range askings() {
			seen(ask(h, log))
		}
		_, e := CheckHouse(h)
		seen(true, e)
		_, e = CheckLog(h, log)
		seen(true, e)
		seen(nothingOf(Accept(h, log, x)))
		b := branches(log[:len(log)/2], log[len(log)/2:], wildLog(t, r))
		seen(nothingOf(Merged(h, b)))
		seen(nothingOf(Exchangeable(h, b)))
		seen(nothingOf(AgeOf(h, log, "a")))
		seen(nothingOf(ClassOf(h, log, "a")))
		seen(nothingOf(Ask(h, log, wildText(r, newPlain()))))
		seen(nothingOf(Sum(log)))
		seen(nothingOf(Journal(log)))
		read, bytes, e := Recover(wildJournal(r, log))
		seen(len(read) == 0 && bytes == 0, e)
		d, e := New(h)
		seen(d == nil, e)
		seen(true, d.Enter(x))
		seen(nothingOf(d.Ask("balance")))
		seen(true, d.Undo())
		_ = d.Log()
	}
	if right < 3000 || wrong < 3000 {
		t.Errorf("%d calls were right, %d were not", right, wrong)
	}
}

// wildJournal is the journal of a log, of which some bytes may be others.
func wildJournal(r *rand.Rand, log []api.HouseEntry) string {
	journal, _ := Journal(log)
	bytes := []byte(strings.Repeat(journal, 1+r.Intn(40)/39*60))
	for range r.Intn(3) {
		if len(bytes) > 0 {
			bytes[r.Intn(len(bytes))] = byte(r.Intn(256))
		}
	}
	return string(bytes)
}

// longLog has something in each list of its state.
func longLog() []api.HouseEntry {
	return example("ann cask b 100", "ann move a b 45", "ann lose b 9", "tom sheet b 1", "tom sheet b 1,0", "cy loss b 1095 1095 5 8", "cy pay 100", "cy part x 10 12 5 6", "cy part y 50 60 1 2", "cy entry half -1 0 -2", "cy entry more 5 1 1",
		"cy certify old1 mean 30 1 10 20 0", "ann day 1105", "ann gauge a 1105 300 300", "ivy seal b", "ivy seal a")
}

// TestArgumentsStay: R3: nothing is written into arguments, or behind their ends, and results share no memory with them, with each other, or with later results.
func TestArgumentsStay(t *testing.T) {
	h, log := home(), longLog()
	log = slices.Grow(log, 20)
	b := branches(slices.Grow(log[:20:20], 20), slices.Grow(entries("ann day 1105"), 20), slices.Grow(entries("ivy duty 8"), 20))
	journal, _ := Journal(log)
	right := fmt.Sprintf("%+v", stateOf(t, longLog()))
	for range 2 {
		s, e := StateOf(h, log)
		want(t, "the state", fmt.Sprintf("%+v", s), e, right, api.OK)
		accepted, e := Accept(h, log, entryOfLine("ann day 1105"))
		want(t, "accepted", accepted, e, slices.Concat(longLog(), entries("ann day 1105")), api.OK)
		merged, e := Merged(h, b)
		want(t, "merged", merged, e, slices.Concat(longLog()[:20], entries("ann day 1105", "ivy duty 8")), api.OK)
		is, e := Exchangeable(h, b)
		want(t, "exchangeable", is, e, true, api.OK)
		book, e := BookOf(h, log)
		want(t, "the book", len(book.Moves)*10+len(book.Readings), e, 42, api.OK)
		suspects, e := Suspects(h, log)
		want(t, "the suspects", suspects, e, numbers(0), api.OK)
		unexplained, e := Unexplained(h, log)
		want(t, "the unexplained losses", unexplained, e, numbers(0), api.OK)
		read, _, e := Recover(journal)
		want(t, "the journal", read, e, longLog(), api.OK)
		for _, l := range [][]api.HouseEntry{accepted, merged, read} {
			l[0] = api.HouseEntry{}
			_ = append(l, api.HouseEntry{})
		}
		spoilt(book.Moves, api.GaugeMove{})
		spoilt(book.Readings, api.GaugeReading{})
		spoilt(suspects, 9)
		spoilt(unexplained, 9)
		ownLists(t, &s)
		want(t, "the house", fmt.Sprint(h), 0, fmt.Sprint(home()), 0)
		want(t, "the log", log, 0, longLog(), 0)
		want(t, "the copies", b, 0, branches(longLog()[:20], entries("ann day 1105"), entries("ivy duty 8")), 0)
		want(t, "behind the log", log[len(log):len(log)+20], 0, make([]api.HouseEntry, 20), 0)
		want(t, "behind the copies", slices.Concat(b.Common[20:40], b.First[1:21], b.Second[1:21]), 0, make([]api.HouseEntry, 60), 0)
	}
}

// spoilt writes into a list, and behind its end.
func spoilt[T any](l []T, x T) {
	_ = append(l, x)
	for n := range l {
		l[n] = x
	}
}

// ownLists looks whether appending to one list of a state changes another one.
func ownLists(t *testing.T, s *api.HouseState) {
	t.Helper()
	before := fmt.Sprint(s)
	for n := range s.Wine.Casks {
		_ = append(s.Wine.Casks[n].Wine.Parts, api.ScalePart{Source: 9, Amount: 9})
	}
	for _, w := range []api.ScaleWine{s.Wine.In, s.Wine.Sold, s.Wine.Lost} {
		_ = append(w.Parts, api.ScalePart{Source: 9, Amount: 9})
	}
	for n := range s.Sheets {
		_ = append(s.Sheets[n].Marks, 9)
	}
	for n := range s.Old.Entries {
		_ = append(s.Old.Entries[n].Coefs, 9)
	}
	for n := range s.Certificates {
		_ = append(s.Certificates[n].Proof.Weights, 9)
	}
	_, _, _ = append(s.Wine.Casks, api.ScaleCask{}), append(s.Sheets, api.TasteSheet{}), append(s.Old.Entries, api.CertifyEntry{})
	_, _, _ = append(s.Old.Parts, api.CertifyPart{}), append(s.Certificates, api.CertifyCertificate{}), append(s.Sealed, "")
	_, _, _ = append(s.Gaugings, api.GaugeReading{}), append(s.Moves, api.GaugeMove{}), append(s.Lost, api.HouseLost{})
	want(t, "the state", fmt.Sprint(s), 0, before, 0)
	for n := range s.Wine.Casks {
		spoilt(s.Wine.Casks[n].Wine.Parts, api.ScalePart{Source: n, Amount: 7})
	}
	for _, w := range []api.ScaleWine{s.Wine.In, s.Wine.Sold, s.Wine.Lost} {
		spoilt(w.Parts, api.ScalePart{Source: 100, Amount: 7})
	}
	want(t, "the wine of the first cask", s.Wine.Casks[0].Wine.Parts[0], 0, api.ScalePart{Source: 0, Amount: 7}, 0)
	spoilt(s.Sheets[0].Marks, 9)
	for n := range s.Old.Entries {
		spoilt(s.Old.Entries[n].Coefs, n)
	}
	want(t, "the first entry", s.Old.Entries[0].Coefs, 0, numbers(0, 0), 0)
	spoilt(s.Certificates[0].Proof.Weights, 9)
	spoilt(s.Sealed, "")
	spoilt(s.Gaugings, api.GaugeReading{})
	spoilt(s.Moves, api.GaugeMove{})
	spoilt(s.Losses, api.FlorLoss{})
	spoilt(s.Lost, api.HouseLost{})
}
