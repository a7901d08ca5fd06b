package scale

import (
	"fmt"
	"math/rand"
	"strings"
	"testing"

	"criadera/api"
)

// garbled puts a few pieces into a text, in the place of others.
func garbled(r *rand.Rand, text string, pieces []string) string {
	for range r.Intn(3) {
		from := r.Intn(len(text) + 1)
		to := min(len(text), from+r.Intn(4))
		text = text[:from] + pieces[r.Intn(len(pieces))] + text[to:]
	}
	return text
}

// TestGarbledActs: P1.13, and R9: an act has one text only, so what is read is written in the same way again.
func TestGarbledActs(t *testing.T) {
	r := rand.New(rand.NewSource(6))
	right := 0
	for range 20000 {
		text := garbled(r, FormatAct(someAct(r)), []string{"", " ", "a", "0", "-", "9", "draw ", " 5", "join", "\n", "\xff"})
		a, e := ParseAct(text)
		if e != api.OK {
			want(t, fmt.Sprintf("%q", text), a, 0, api.ScaleAct{}, 0)
			continue
		}
		right++
		want(t, "the text again", FormatAct(a), 0, text, 0)
	}
	if right < 1000 {
		t.Errorf("only %d acts were right", right)
	}
}

// TestGarbledStates is the same of states.
func TestGarbledStates(t *testing.T) {
	r := rand.New(rand.NewSource(7))
	right := 0
	for range 20000 {
		text := garbled(r, "a 100 23 10:1190 12:420;b 100 23 10:765 12:270;in 1 10:100 12:60;sold 1 10:15 12:30;lost 1", []string{"", " ", ";", ":", "0", "1", "-1", "in 1", "a", "\n", "\xff"})
		s, e := ParseState(text)
		if e != api.OK {
			want(t, fmt.Sprintf("%q", text), s, 0, api.ScaleState{}, 0)
			continue
		}
		right++
		want(t, "the text again", FormatState(s), 0, text, 0)
	}
	if right < 1000 {
		t.Errorf("only %d states were right", right)
	}
}

// TestGarbledSystems: P1.8: what is read is right and is printed in the same words, and every error has a mark in the text, or behind it.
func TestGarbledSystems(t *testing.T) {
	r := rand.New(rand.NewSource(8))
	right := 0
	for range 20000 {
		text := garbled(r, "system s\ncask a 100 100\n\ndays 80 260\ndraw a 25\nfill a 25\n", []string{"", " ", "\t", "\n", "0", "1", "x", "days 5", "cask b 5 5\n", "join a b\n", "\xff"})
		s, m, e := Parse(text)
		if e != api.OK {
			want(t, fmt.Sprintf("%q", text), s, 0, api.ScaleSystem{}, 0)
			lines := append(strings.Split(text, "\n"), "")
			if m.Line < 1 || m.Line > len(lines) || m.Column < 1 || m.Column > len(lines[m.Line-1])+1 {
				t.Errorf("%q: an error at %v", text, m)
			}
			continue
		}
		right++
		want(t, "no mark", m, 0, api.TextMark{}, 0)
		printed, e := Print(s)
		want(t, fmt.Sprintf("the words of %q", text), strings.Fields(printed), e, strings.Fields(text), api.OK)
	}
	if right < 1000 {
		t.Errorf("only %d systems were right", right)
	}
}
