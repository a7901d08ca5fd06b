package scale

import (
	"strconv"
	"strings"

	"criadera/api"
	"criadera/texts"
)

// FormatState returns the text of a state, whatever it is.
func FormatState(s api.ScaleState) string {
	pieces := eachOf(s.Casks, func(c api.ScaleCask) string {
		return c.Name + " " + strconv.Itoa(c.Capacity) + " " + wineText(c.Wine)
	})
	pieces = append(pieces, "in "+wineText(s.In), "sold "+wineText(s.Sold), "lost "+wineText(s.Lost))
	return strings.Join(pieces, ";")
}

func wineText(w api.ScaleWine) string {
	parts := eachOf(w.Parts, func(p api.ScalePart) string {
		return strconv.Itoa(p.Source) + ":" + strconv.Itoa(p.Amount)
	})
	return strings.Join(append([]string{strconv.Itoa(w.Den)}, parts...), " ")
}

// ParseState returns the state with a text.
func ParseState(t string) (api.ScaleState, api.Errno) {
	if len(t) > api.MaxText {
		return api.ScaleState{}, api.ErrLarge
	}
	s, ok := readState(strings.Split(t, ";"))
	if !ok {
		return api.ScaleState{}, api.ErrSyntax
	}
	if _, e := CheckState(s); e != api.OK {
		return api.ScaleState{}, e
	}
	return s, api.OK
}

// readState reads the pieces of a text, the last three of which are what came in, was sold and was lost; so "in" may be a cask as well.
func readState(pieces []string) (api.ScaleState, bool) {
	casks := len(pieces) - 3
	if casks < 0 {
		return api.ScaleState{}, false
	}
	var s api.ScaleState
	var ok [4]bool
	s.Casks, ok[0] = allOf(pieces[:casks], readCask)
	s.In, ok[1] = readTotal(pieces[casks], "in")
	s.Sold, ok[2] = readTotal(pieces[casks+1], "sold")
	s.Lost, ok[3] = readTotal(pieces[casks+2], "lost")
	return s, ok[0] && ok[1] && ok[2] && ok[3]
}

func readCask(piece string) (api.ScaleCask, bool) {
	words := strings.Split(piece, " ")
	if len(words) < 3 {
		return api.ScaleCask{}, false
	}
	capacity, ok := texts.Number(words[1], digitsOfStates)
	wine, right := readWine(words[2:])
	return api.ScaleCask{Name: words[0], Capacity: capacity, Wine: wine}, ok && right
}

func readTotal(piece, word string) (api.ScaleWine, bool) {
	words := strings.Split(piece, " ")
	if words[0] != word {
		return api.ScaleWine{}, false
	}
	return readWine(words[1:])
}

func readWine(words []string) (api.ScaleWine, bool) {
	if len(words) == 0 {
		return api.ScaleWine{}, false
	}
	den, ok := texts.Number(words[0], digitsOfStates)
	parts, right := allOf(words[1:], readPart)
	return api.ScaleWine{Den: den, Parts: parts}, ok && right
}

func readPart(word string) (api.ScalePart, bool) {
	before, behind, _ := strings.Cut(word, ":")
	source, ok := texts.Number(before, digitsOfStates)
	amount, right := texts.Number(behind, digitsOfStates)
	return api.ScalePart{Source: source, Amount: amount}, ok && right
}
