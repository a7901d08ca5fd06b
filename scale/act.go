package scale

import (
	"slices"
	"strconv"
	"strings"

	"criadera/api"
	"criadera/texts"
)

// A kind is what is told of a kind of acts: its word, the least and the most casks, the numbers in its text, whether it takes wine from its first cask, and whether it puts wine into its last one.
type kind struct {
	word                 string
	least, most, numbers int
	takes, puts          bool
}

var kinds = [...]kind{
	api.ScaleAdd:  {word: "cask", least: 1, most: 1, numbers: 1},
	api.ScaleFill: {word: "fill", least: 1, most: 1, numbers: 2, puts: true},
	api.ScaleDraw: {word: "draw", least: 1, most: 1, numbers: 1, takes: true},
	api.ScaleMove: {word: "move", least: 2, most: 2, numbers: 1, takes: true, puts: true},
	api.ScaleLose: {word: "lose", least: 1, most: 1, numbers: 1, takes: true},
	api.ScaleJoin: {word: "join", least: 2, most: api.MaxScaleCasks},
}

func isKind(n int) bool { return within(n, 0, len(kinds)-1) }

// kindOf is the kind of a word.
func kindOf(word string) (int, bool) {
	for n := range len(kinds) {
		if kinds[n].word == word {
			return n, true
		}
	}
	return 0, false
}

// CheckAct returns the first error of an act by itself.
func CheckAct(a api.ScaleAct) api.Errno {
	if !isKind(a.Kind) {
		return api.ErrKind
	}
	if !within(len(a.Casks), kinds[a.Kind].least, kinds[a.Kind].most) {
		return api.ErrShape
	}
	if e := checkNames(a.Casks); e != api.OK {
		return e
	}
	isFill, isJoin := a.Kind == api.ScaleFill, a.Kind == api.ScaleJoin
	switch {
	case !isFill && a.Source != 0 || isJoin && a.Volume != 0:
		return api.ErrForm
	case !isSource(a.Source) || !isJoin && !within(a.Volume, 1, api.MaxVolume):
		return api.ErrRange
	}
	return api.OK
}

func checkNames(l []string) api.Errno {
	seen := map[string]bool{}
	_, e := firstWrong(l, func(name string) api.Errno {
		if !texts.IsName(name) {
			return api.ErrName
		}
		if seen[name] {
			return api.ErrDouble
		}
		seen[name] = true
		return api.OK
	})
	return e
}

// FormatAct returns the text of an act.
func FormatAct(a api.ScaleAct) string {
	if !isKind(a.Kind) {
		return ""
	}
	told := []int{a.Source, a.Volume}
	return actText(a, told[len(told)-kinds[a.Kind].numbers:]...)
}

// actText is the word of the kind, the casks, and numbers.
func actText(a api.ScaleAct, numbers ...int) string {
	words := slices.Concat([]string{kinds[a.Kind].word}, a.Casks, eachOf(numbers, strconv.Itoa))
	return strings.Join(words, " ")
}

// ParseAct returns the act with a text.
func ParseAct(t string) (api.ScaleAct, api.Errno) {
	a, ok := readAct(strings.Split(t, " "))
	if !ok {
		return api.ScaleAct{}, api.ErrSyntax
	}
	if e := CheckAct(a); e != api.OK {
		return api.ScaleAct{}, e
	}
	return a, api.OK
}

// readAct reads the words of an act, and asks for its form alone.
func readAct(words []string) (api.ScaleAct, bool) {
	k, ok := kindOf(words[0])
	if !ok || slices.Contains(words, "") {
		return api.ScaleAct{}, false
	}
	casks := len(words) - 1 - kinds[k].numbers
	if k == api.ScaleJoin && casks < 1 || k != api.ScaleJoin && casks != kinds[k].least {
		return api.ScaleAct{}, false
	}
	numbers, ok := allOf(words[1+casks:], func(s string) (int, bool) { return texts.Signed(s, digitsOfActs) })
	if !ok {
		return api.ScaleAct{}, false
	}
	a := api.ScaleAct{Kind: k, Casks: slices.Clone(words[1 : 1+casks])}
	switch len(numbers) {
	case 2:
		a.Source, a.Volume = numbers[0], numbers[1]
	case 1:
		a.Volume = numbers[0]
	}
	return a, true
}

func cloneAct(a api.ScaleAct) api.ScaleAct {
	a.Casks = slices.Clone(a.Casks)
	return a
}
