package texts

import (
	"math"
	"slices"
	"testing"
)

func TestLine(t *testing.T) {
	for _, x := range []struct {
		words   []string
		numbers []int
		line    string
	}{
		{nil, nil, ""},
		{nil, []int{7}, "7"},
		{[]string{"a"}, nil, "a"},
		{[]string{"a", "b"}, []int{0, -5, math.MinInt}, "a b 0 -5 -9223372036854775808"},
		{[]string{""}, []int{1}, " 1"},
	} {
		if s := Line(x.words, x.numbers...); s != x.line {
			t.Errorf("%q, want %q", s, x.line)
		}
	}
	words := []string{"a", "b"}
	Line(words[:1], 7)
	if words[1] != "b" {
		t.Error("Line writes into its words")
	}
}

func TestNumbersOfWords(t *testing.T) {
	if l, ok := Numbers([]string{"12", "-3", "0"}, 3, 2); !ok || !slices.Equal(l, []int{12, -3, 0}) {
		t.Error(l, ok)
	}
	if l, ok := Numbers(nil, 0, 2); !ok || len(l) != 0 {
		t.Error(l, ok)
	}
	for _, words := range [][]string{nil, {"1"}, {"1", "2", "3"}, {"1", ""}, {"1", "x"}, {"01", "2"}, {"1", "100"}} {
		if l, ok := Numbers(words, 2, 2); ok || l != nil {
			t.Errorf("%q: %v", words, l)
		}
	}
}

func TestWordAndNumbers(t *testing.T) {
	for s, word := range map[string]string{"a 5 -6": "a", "\t 5 -6": "\t", "5 5 -6": "5"} {
		if w, l, ok := WordAndNumbers(s, 2, 9); !ok || w != word || !slices.Equal(l, []int{5, -6}) {
			t.Errorf("%q: %q, %v, %v", s, w, l, ok)
		}
	}
	for _, s := range []string{"", " ", "a", "a 5", "a 5 6 7", " 5 6", "a  5 6", " a 5 6", "a 5 6 ", "a 5\t6", "a 5 x", "a 5 1000000000"} {
		if w, l, ok := WordAndNumbers(s, 2, 9); ok || w != "" || l != nil {
			t.Errorf("%q: %q, %v", s, w, l)
		}
	}
}
