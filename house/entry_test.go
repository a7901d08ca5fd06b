package house

import (
	"fmt"
	"strings"
	"testing"

	"criadera/api"
)

// rightLines is entries of all kinds that are right behind the example, with a sealed cask b, by those with just the role for them.
func rightLines() []string {
	return words("ann day 1095", "ann cask c 1", "ann fill a 402 50", "ann draw a 450", "ann move a d 10", "ann lose a 1", "ann join a d", "ann gauge a 1095 0 100000",
		"tom sheet a 0,1", "cy loss a 0 1095 0 0", "cy pay 150", "cy part x 10 12 5 6", "cy entry half -1 -2", "cy certify new mean 10 1 10", "ivy seal a", "ivy open b", "ivy duty 0")
}

// before is the log ahead of the right lines, with what an entry needs of the book of the old wine.
func before(line string) []api.HouseEntry {
	log := example("ann cask b 100", "ann cask d 100", "ivy seal b")
	if strings.Contains(line, " entry ") || strings.Contains(line, " certify ") {
		log = append(log, entryOfLine("cy part w 10 12 5 6"))
	}
	return log
}

// TestRoles: P10.2 and P10.9: an entry is for those of its role, and of the roles behind it.
func TestRoles(t *testing.T) {
	everybody := words("ann", "tom", "cy", "ivy")
	for _, line := range rightLines() {
		by, text, _ := strings.Cut(line, " ")
		isAllowed := false
		for _, person := range everybody {
			isAllowed = isAllowed || person == by
			e := api.ErrAllowed
			if isAllowed {
				e = api.OK
			}
			entered(t, []behind{{before(line), person + " " + text, e}})
		}
	}
}

// TestEntryErrors: P10.2: the errors that all entries have, one ahead of the other.
func TestEntryErrors(t *testing.T) {
	long := func(text string, bytes int) string { return text + strings.Repeat("9", bytes-len(text)) }
	log := example()
	var l []behind
	for _, line := range words("zoe day 1095", " day 1095", "Ann day 1095", "an day 1095", "ann\n day 1095", "zoe walk", "zoe seal a", long("zoe ", 400), "", "zoe ") {
		l = append(l, behind{log, line, api.ErrMissing})
	}
	l = append(l,
		behind{log, "ann " + long("day ", 301), api.ErrLarge},
		behind{log, "ann " + long("walk ", 301), api.ErrLarge},
		behind{log, "ann " + long("seal ", 301), api.ErrLarge},
		behind{log, "ann " + long("day ", 300), api.ErrSyntax},
		behind{log, "ann " + long("seal ", 300), api.ErrAllowed},
		behind{log, "ivy " + long("seal ", 300), api.ErrMissing})
	for _, text := range words("", " ", "walk", "walk a 5", "days 5", "Day 5", "d 5", "day\n1095", "day\t1095", " day 1095", "\nday 1095", "add a 5", "close a", "certificate a", "cask\x00 b 5", "день 5") {
		l = append(l, behind{log, "ann " + text, api.ErrSyntax}, behind{log, "ivy " + text, api.ErrSyntax})
	}
	for _, text := range words("seal", "seal  a", "seal a b", "open a\n", "duty x", "duty 5 5", "pay", "loss ", "part", "part x 1 2 3 4\n", "certify  ") {
		l = append(l, behind{log, "ann " + text, api.ErrAllowed})
	}
	entered(t, l)
}

// TestForms: P10.2: an entry has its own form or none, with single blanks between its words.
func TestForms(t *testing.T) {
	var l []behind
	for _, line := range rightLines() {
		log := before(line)
		by, text, _ := strings.Cut(line, " ")
		first, rest, _ := strings.Cut(text, " ")
		for _, text := range words(first, first+" ", first+"  "+rest, first+" "+rest+" ", first+" "+rest+"\n", first+" \n"+rest, first+" "+strings.Replace(rest, " ", "  ", 1)+" ", first+"\n "+rest) {
			l = append(l, behind{log, by + " " + text, api.ErrSyntax})
		}
	}
	entered(t, l)
	log := example()
	l = nil
	for _, word := range words("day", "pay", "duty") {
		for _, text := range words("x", "5 5", "05", "+5", "-0", "--5", "5x", "0x5", "5.0", "1234567890", "1000000000", "-1234567890", "ä", "-") {
			l = append(l, behind{log, "ivy " + word + " " + text, api.ErrSyntax})
		}
		for _, n := range numbers(-1, -5, -999999999, 999999999) {
			e := api.ErrRange
			if word == "pay" && n > 0 {
				e = api.ErrLarge // it is in its range, but more than is due
			}
			l = append(l, behind{log, fmt.Sprint("ivy ", word, " ", n), e})
		}
	}
	for _, line := range words("ivy seal a b", "ivy seal a a", "ivy open a b", "ivy open a a") {
		l = append(l, behind{log, line, api.ErrSyntax})
	}
	entered(t, l)
}

// TestStateOfAll: P10.2: what a log with all kinds of entries comes to, list by list.
func TestStateOfAll(t *testing.T) {
	s := stateOf(t, nil)
	none := api.ScaleWine{Den: 1}
	want(t, "no log", s, 0, api.HouseState{Wine: api.ScaleState{In: none, Sold: none, Lost: none}}, 0)
	s = stateOf(t, example("ann cask b 100", "ann move a b 45", "ivy duty 10", "ann day 1100", "ann lose b 9", "ann draw b 6", "ann join a b", "ann gauge b 1100 30 31",
		"tom sheet b 1", "tom sheet a 0", "tom sheet b -", "tom sheet b 1,0", "cy loss b 1095 1100 5 9", "cy pay 100", "cy pay 110", "ivy seal b", "ivy seal a", "ivy open b", "ivy seal b",
		"cy part x 10 12 5 6", "cy part y 50 60 1 2", "cy entry half -1 0 -2", "cy certify old2 share 50 500 2 0 1", "cy certify old1 mean 30 1 10 20"))
	wine := func(den int, parts ...api.ScalePart) api.ScaleWine { return api.ScaleWine{Den: den, Parts: parts} }
	want(t, "all", s, 0, api.HouseState{
		Day: 1100,
		Wine: api.ScaleState{
			Casks: []api.ScaleCask{
				{Name: "a", Capacity: 500, Wine: wine(1, api.ScalePart{Source: 0, Amount: 81}, api.ScalePart{Source: 2, Amount: 324})},
				{Name: "b", Capacity: 100, Wine: wine(1, api.ScalePart{Source: 0, Amount: 6}, api.ScalePart{Source: 2, Amount: 24})}},
			In:   wine(1, api.ScalePart{Source: 0, Amount: 100}, api.ScalePart{Source: 2, Amount: 400}),
			Sold: wine(5, api.ScalePart{Source: 0, Amount: 56}, api.ScalePart{Source: 2, Amount: 224}),
			Lost: wine(5, api.ScalePart{Source: 0, Amount: 9}, api.ScalePart{Source: 2, Amount: 36})},
		Rate: 10, Due: 210, Paid: 210,
		Sealed:   words("a", "b"),
		Gaugings: []api.GaugeReading{{Cask: "a", Day: 1095, Volume: within(450, 450)}, {Cask: "b", Day: 1100, Volume: within(30, 31)}},
		Moves: []api.GaugeMove{{Day: 0, To: "a", Volume: 400}, {Day: 1095, To: "a", Volume: 100}, {Day: 1095, From: "a", Volume: 50},
			{Day: 1095, From: "a", To: "b", Volume: 45}, {Day: 1100, From: "b", Volume: 6}},
		Losses: []api.FlorLoss{{Cask: "b", From: 1095, To: 1100, Volume: within(5, 9)}},
		Lost:   []api.HouseLost{{Day: 1100, Cask: "b", Volume: 9}},
		Sheets: []api.TasteSheet{{Cask: "b", Marks: numbers(1, 1, 0)}, {Cask: "a", Marks: numbers(0)}},
		Old: api.CertifyBook{
			Parts:   []api.CertifyPart{{Name: "x", Age: within(10, 12), Carbon: within(5, 6)}, {Name: "y", Age: within(50, 60), Carbon: within(1, 2)}},
			Entries: []api.CertifyEntry{{Name: "half", Coefs: numbers(0, -2), Most: -1}}},
		Certificates: []api.CertifyCertificate{
			{Name: "old2", Ask: api.CertifyAsk{Kind: api.CertifyShare, Age: 50}, Value: 500, Proof: api.CertifyProof{Den: 2, Level: 0, Weights: numbers(1)}},
			{Name: "old1", Value: 30, Proof: api.CertifyProof{Den: 1, Level: 10, Weights: numbers(20)}}},
	}, 0)
}
