package flor

import (
	"slices"
	"strconv"
	"strings"

	"criadera/api"
	"criadera/texts"
)

// mostDigits is the most digits of numbers in texts.
const mostDigits = 9

// text is words and numbers behind them, with single blanks between.
func text(words []string, numbers ...int) string {
	all := slices.Clone(words)
	for _, n := range numbers {
		all = append(all, strconv.Itoa(n))
	}
	return strings.Join(all, " ")
}

// readNumbers reads so many numbers.
func readNumbers(words []string, count int) ([]int, bool) {
	if len(words) != count {
		return nil, false
	}
	l := make([]int, 0, count)
	for _, word := range words {
		n, ok := texts.Signed(word, mostDigits)
		if !ok {
			return nil, false
		}
		l = append(l, n)
	}
	return l, true
}

// FormatWine returns the text of a wine, whatever it is.
func FormatWine(w api.FlorWine) string {
	return text(nil, w.Volume.Lo, w.Volume.Hi, w.Strength.Lo, w.Strength.Hi, w.Sugar.Lo, w.Sugar.Hi)
}

// ParseWine returns the wine with a text.
func ParseWine(s string) (api.FlorWine, api.Errno) {
	l, ok := readNumbers(strings.Split(s, " "), 6)
	if !ok {
		return api.FlorWine{}, api.ErrSyntax
	}
	w := api.FlorWine{Volume: api.Range{Lo: l[0], Hi: l[1]}, Strength: api.Range{Lo: l[2], Hi: l[3]}, Sugar: api.Range{Lo: l[4], Hi: l[5]}}
	if e := CheckWine(w); e != api.OK {
		return api.FlorWine{}, e
	}
	return w, api.OK
}

// FormatLoss returns the text of a loss, whatever it is.
func FormatLoss(l api.FlorLoss) string {
	return text([]string{l.Cask}, l.From, l.To, l.Volume.Lo, l.Volume.Hi)
}

// ParseLoss returns the loss with a text.
func ParseLoss(s string) (api.FlorLoss, api.Errno) {
	words := strings.Split(s, " ")
	l, ok := readNumbers(words[1:], 4)
	if !ok || words[0] == "" {
		return api.FlorLoss{}, api.ErrSyntax
	}
	x := api.FlorLoss{Cask: words[0], From: l[0], To: l[1], Volume: api.Range{Lo: l[2], Hi: l[3]}}
	if e := lossError(x); e != api.OK {
		return api.FlorLoss{}, e
	}
	return x, api.OK
}

func lossError(x api.FlorLoss) api.Errno {
	return first(
		unless(texts.IsName(x.Cask), api.ErrName),
		numberError(x.From, 0, api.MaxDate),
		numberError(x.To, 0, api.MaxDate),
		unless(x.From <= x.To, api.ErrOrder),
		rangeError(x.Volume, api.MaxVolume))
}
