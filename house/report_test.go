package house

import (
	"slices"
	"strings"
	"testing"

	"criadera/api"
)

// A reported is a log, and its report.
type reported struct {
	what string
	log  []api.HouseEntry
	text string
}

func reports() []reported {
	return []reported{
		{"no log", nil, "balance 0 0 0 0\nduty 0 0\nsuspects -\nunexplained -\n"},
		{"the chapter's example", example(), "cask a 450 - 7/5\nbalance 500 450 50 0\nduty 150 0\nsuspects -\nunexplained -\n"},
		{"a sheet and a seal", example("tom sheet a 1,1", "ivy seal a"), "cask a 450 fino 7/5 sealed\nbalance 500 450 50 0\nduty 150 0\nsuspects -\nunexplained -\n"},
		{"casks in their order", example("ann cask c 9", "ann cask b 9", "tom sheet b -", "tom sheet c 0", "ann fill b 400 2", "ann fill c 401 3", "cy pay 149", "ivy seal b"),
			"cask a 450 - 7/5\ncask c 3 oloroso -\ncask b 2 mosto -397/1 sealed\nbalance 505 455 50 0\nduty 150 149\nsuspects -\nunexplained -\n"},
		{"suspects and losses", example("ann day 1105", "ann gauge a 1105 420 420", "cy loss a 1095 1105 10 20", "cy loss a 1095 1105 0 20", "cy loss a 0 0 1 1", "ann cask b 5", "ann gauge b 1105 1 1", "ann gauge b 1105 2 2", "ann day 1825"),
			"cask a 450 - 17/5\ncask b 0 - -\nbalance 500 450 50 0\nduty 150 0\nsuspects 0 2\nunexplained 0 2\n"},
		{"an age that is no small fraction", mixed(), "cask a 99990 - -99992/99991\ncask b 99988 - -\ncask c 1 - -\ncask d 0 - -\nbalance 199979 199979 0 0\nduty 0 0\nsuspects -\nunexplained -\n"},
		{"too many suspects", manySuspects(15), "cask a 0 - -\nbalance 0 0 0 0\nduty 0 0\nsuspects many\nunexplained -\n"},
		{"just not too many suspects", manySuspects(14), "cask a 0 - -\nbalance 0 0 0 0\nduty 0 0\nsuspects 0 1 2 3 4 5 6 7 8 9 10 11 12\nunexplained -\n"},
		{"certificates", entries("cy part x 10 12 5 6", "cy part y 50 60 1 2", "cy entry half -1 0 -2", "cy certify old2 share 50 500 2 0 1", "cy certify old1 mean 30 1 10 20"),
			"balance 0 0 0 0\nduty 0 0\nsuspects -\nunexplained -\ncertified old2 share 50 500 2 0 1\ncertified old1 mean 30 1 10 20\n"},
		{"no weights", entries("cy part x 10 12 5 6", "cy certify old1 mean 10 1 10"), "balance 0 0 0 0\nduty 0 0\nsuspects -\nunexplained -\ncertified old1 mean 10 1 10\n"},
	}
}

// TestReport: P10.5.
func TestReport(t *testing.T) {
	for _, x := range reports() {
		text, e := Report(home(), x.log)
		want(t, x.what, text, e, x.text, api.OK)
	}
}

// TestAsk: P10.5: a question is answered by what stands in the report.
func TestAsk(t *testing.T) {
	for _, x := range reports() {
		for line := range strings.Lines(x.text) {
			line = strings.TrimSuffix(line, "\n")
			word, rest, _ := strings.Cut(line, " ")
			question := word
			switch word {
			case "cask":
				question = "cask " + strings.Split(rest, " ")[0]
			case "certified":
				question = "certificate " + strings.Split(rest, " ")[0]
			}
			answer, e := Ask(home(), x.log, question)
			want(t, x.what+": "+question, answer, e, rest, api.OK)
		}
	}
}

// TestWrongQuestions: P10.5.
func TestWrongQuestions(t *testing.T) {
	log := example("cy part x 10 12 5 6", "cy certify old1 mean 10 1 10")
	for _, question := range words("", " ", "cask", "cask ", " cask a", "cask  a", "cask a ", "cask a a", "cask a b", "certificate", "certificate ", "certificate old1 mean", "certificate old1 ",
		"balance ", " balance", "balance a", "duty 5", "suspects -", "unexplained 0", "Balance", "balances", "report", "certified old1", "sheet a", "a", "cask\ta", "balance\n", "cask a\n", "cask\na", "certificate old1\n", "cask \n") {
		answer, e := Ask(home(), log, question)
		refused(t, question, answer, e, api.ErrSyntax)
	}
	for _, question := range words("cask b", "cask old1", "cask A", "cask 9", "cask aa", "certificate a", "certificate old", "certificate x", "certificate 9", "cask cask") {
		answer, e := Ask(home(), log, question)
		refused(t, question, answer, e, api.ErrMissing)
	}
	answer, e := Ask(home(), slices.Concat(log, entries("ann cask cask 5", "ann cask balance 6")), "cask cask")
	want(t, "a cask with such a name", answer, e, "cask 0 - -", api.OK)
}
