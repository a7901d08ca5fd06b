package taste

import (
	"slices"

	"criadera/api"
	"criadera/checks"
)

// noMark stands for the mark of a cask that has none.
const noMark = -1

// counts is how often some tasters gave each mark to the wine of a cask.
func (p panel) counts(cask int, tasters []int) []int {
	counts := make([]int, p.Marks)
	for _, taster := range tasters {
		for glass, mark := range p.Tasters[taster] {
			if p.Glasses[glass] == cask {
				counts[mark]++
			}
		}
	}
	return counts
}

// mark is the mark of a cask by some tasters, or noMark.
func (p panel) mark(cask int, tasters []int) int {
	counts := p.counts(cask, tasters)
	greatest := slices.Max(counts)
	mark := slices.Index(counts, greatest)
	if greatest == 0 || slices.Contains(counts[mark+1:], greatest) {
		return noMark
	}
	return mark
}

// askedOf checks a panel, a cask and some tasters.
func askedOf(p api.TastePanel, cask int, tasters []int) (panel, api.Errno) {
	checked, e := panelOf(p)
	return checked, checks.First(e, checks.Element(cask, checked.Casks), checks.Chosen(tasters, len(checked.Tasters)))
}

// CountsOf returns the counts of a cask by some tasters.
func CountsOf(p api.TastePanel, cask int, tasters []int) ([]int, api.Errno) {
	checked, e := askedOf(p, cask, tasters)
	if e != api.OK {
		return nil, e
	}
	return checked.counts(cask, tasters), api.OK
}

// MarkOf returns the mark of a cask by some tasters.
func MarkOf(p api.TastePanel, cask int, tasters []int) (int, api.Errno) {
	checked, e := askedOf(p, cask, tasters)
	if e != api.OK {
		return 0, e
	}
	mark := checked.mark(cask, tasters)
	if mark == noMark {
		return 0, api.ErrNone
	}
	return mark, api.OK
}

// Marked returns what a panel marks for a least share: a mark of each cask, or -1.
func Marked(p api.TastePanel, least api.Frac) ([]int, api.Errno) {
	checked, e := panelOf(p)
	if e := checks.First(e, shareError(least)); e != api.OK {
		return nil, e
	}
	steady := checked.steadiest(least)
	marks := make([]int, p.Casks)
	for cask := range p.Casks {
		marks[cask] = checked.mark(cask, steady)
	}
	return marks, api.OK
}
