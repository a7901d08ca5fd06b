package flor

import (
	"strings"

	"criadera/api"
	"criadera/checks"
	"criadera/texts"
)

// mostDigits is the most digits of numbers in texts.
const mostDigits = 9

// FormatWine returns the text of a wine, whatever it is.
func FormatWine(w api.FlorWine) string {
	return texts.Line(nil, w.Volume.Lo, w.Volume.Hi, w.Strength.Lo, w.Strength.Hi, w.Sugar.Lo, w.Sugar.Hi)
}

// ParseWine returns the wine with a text.
func ParseWine(s string) (api.FlorWine, api.Errno) {
	l, ok := texts.Numbers(strings.Split(s, " "), 6, mostDigits)
	if !ok {
		return api.FlorWine{}, api.ErrSyntax
	}
	w := api.FlorWine{Volume: api.Range{Lo: l[0], Hi: l[1]}, Strength: api.Range{Lo: l[2], Hi: l[3]}, Sugar: api.Range{Lo: l[4], Hi: l[5]}}
	if e := CheckWine(w); e != api.OK {
		return api.FlorWine{}, e
	}
	return w, api.OK
}

// FormatLoss returns the text of a loss, whatever it is.
func FormatLoss(l api.FlorLoss) string {
	return texts.Line([]string{l.Cask}, l.From, l.To, l.Volume.Lo, l.Volume.Hi)
}

// ParseLoss returns the loss with a text.
func ParseLoss(s string) (api.FlorLoss, api.Errno) {
	cask, l, ok := texts.WordAndNumbers(s, 4, mostDigits)
	if !ok {
		return api.FlorLoss{}, api.ErrSyntax
	}
	x := api.FlorLoss{Cask: cask, From: l[0], To: l[1], Volume: api.Range{Lo: l[2], Hi: l[3]}}
	if e := lossError(x); e != api.OK {
		return api.FlorLoss{}, e
	}
	return x, api.OK
}

func lossError(x api.FlorLoss) api.Errno {
	return checks.First(
		checks.Name(x.Cask),
		checks.Date(x.From),
		checks.Date(x.To),
		checks.Unless(x.From <= x.To, api.ErrOrder),
		checks.Range(x.Volume, api.MaxVolume))
}
