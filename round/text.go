package round

import (
	"slices"
	"strings"

	"criadera/api"
	"criadera/checks"
)

// between stands between moves.
const between = ";"

// FormatMoves returns the text of moves.
func FormatMoves(p api.RoundPlant, l []api.RoundMove) (string, api.Errno) {
	checked, e := plantOf(p)
	if e != api.OK {
		return "", e
	}
	names := namesOf(p.Vessels)
	words := make([]string, 0, len(l))
	for _, m := range l {
		if e := checked.bothError(m.From, m.To); e != api.OK {
			return "", e
		}
		words = append(words, names[m.From]+" "+names[m.To])
	}
	return strings.Join(words, between), api.OK
}

// ParseMoves returns the moves with a text.
func ParseMoves(p api.RoundPlant, s string) ([]api.RoundMove, api.Errno) {
	_, e := CheckPlant(p)
	words, ok := readMoves(s)
	if e := checks.First(e, checks.Unless(ok, api.ErrSyntax)); e != api.OK {
		return nil, e
	}
	names := namesOf(p.Vessels)
	l := make([]api.RoundMove, 0, len(words))
	for _, x := range words {
		m := api.RoundMove{From: slices.Index(names, x[0]), To: slices.Index(names, x[1])}
		if m.From < 0 || m.To < 0 {
			return nil, api.ErrMissing
		}
		l = append(l, m)
	}
	return l, api.OK
}

// readMoves reads the two words of each move, whatever they are.
func readMoves(s string) ([][2]string, bool) {
	if s == "" {
		return nil, true
	}
	var l [][2]string
	for move := range strings.SplitSeq(s, between) {
		words := strings.Split(move, " ")
		if len(words) != 2 || slices.Contains(words, "") {
			return nil, false
		}
		l = append(l, [2]string(words))
	}
	return l, true
}
