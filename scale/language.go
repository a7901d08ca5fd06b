package scale

import (
	"strconv"
	"strings"

	"criadera/api"
	"criadera/texts"
)

// A lineForm is the form of a line: its first word, how many names and then numbers stand behind it, and whether more of the last ones may follow.
type lineForm struct {
	word           string
	names, numbers int
	more           bool
}

// The forms of lines; the first three are no steps.
const (
	formOfSystem = iota
	formOfCask
	formOfDays
	formOfFill
	formOfDraw
	formOfMove
	formOfJoin
)

var forms = [...]lineForm{
	formOfSystem: {word: "system", names: 1},
	formOfCask:   {word: "cask", names: 1, numbers: 2},
	formOfDays:   {word: "days", numbers: 1, more: true},
	formOfFill:   {word: "fill", names: 1, numbers: 1},
	formOfDraw:   {word: "draw", names: 1, numbers: 1},
	formOfMove:   {word: "move", names: 2, numbers: 1},
	formOfJoin:   {word: "join", names: 1, more: true},
}

// A word is a word of a line, and the column of its first byte.
type word struct {
	text   string
	column int
}

// A line is the words of a line that has some, with its number from 1 on.
type line struct {
	number int
	words  []word
}

// end is the column behind the last word.
func (l line) end() int {
	last := l.words[len(l.words)-1]
	return last.column + len(last.text)
}

// A content is what stands in a line, by its form.
type content struct {
	form    int
	names   []string
	numbers []int
}

// Print returns the text of a system.
func Print(s api.ScaleSystem) (string, api.Errno) {
	if _, e := CheckSystem(s); e != api.OK {
		return "", e
	}
	var b strings.Builder
	b.WriteString("system " + s.Name + "\n")
	for _, v := range s.Casks {
		b.WriteString("cask " + v.Name + " " + strconv.Itoa(v.Capacity) + " " + strconv.Itoa(v.Start) + "\n")
	}
	b.WriteString("days " + strings.Join(eachOf(s.Days, strconv.Itoa), " ") + "\n")
	for _, a := range s.Steps {
		b.WriteString(stepText(a) + "\n")
	}
	return b.String(), api.OK
}

// stepText is the text of an act without a source: the wine of the year is meant.
func stepText(a api.ScaleAct) string {
	if a.Kind == api.ScaleJoin {
		return actText(a)
	}
	return actText(a, a.Volume)
}

// Parse returns the system with a text, or the mark of its first error.
func Parse(t string) (api.ScaleSystem, api.TextMark, api.Errno) {
	if len(t) > api.MaxText {
		return api.ScaleSystem{}, api.TextMark{}, api.ErrLarge
	}
	var r reader
	lines, m, e := eachLine(t, r.read)
	if e != api.OK {
		return api.ScaleSystem{}, m, e
	}
	if r.systemLine == 0 || r.daysLine == 0 {
		return api.ScaleSystem{}, api.TextMark{Line: lines + 1, Column: 1}, api.ErrMissing
	}
	if m, e := CheckSystem(r.ScaleSystem); e != api.OK {
		return api.ScaleSystem{}, api.TextMark{Line: r.lineOf(m), Column: 1}, e
	}
	return r.ScaleSystem, api.TextMark{}, api.OK
}

// eachLine reads the lines of a text that have words, up to the first error, of which read returns the column. It returns how many lines there are, or the mark of the error.
func eachLine(t string, read func(l line) (int, api.Errno)) (int, api.TextMark, api.Errno) {
	number := 0
	for t != "" {
		var text string
		text, t, _ = strings.Cut(t, "\n")
		number++
		words := wordsOf(text)
		if len(words) == 0 {
			continue
		}
		if column, e := read(line{number: number, words: words}); e != api.OK {
			return 0, api.TextMark{Line: number, Column: column}, e
		}
	}
	return number, api.TextMark{}, api.OK
}

func wordsOf(text string) []word {
	var l []word
	start := 0
	for i := range len(text) + 1 {
		if i < len(text) && text[i] != ' ' && text[i] != '\t' {
			continue
		}
		if start < i {
			l = append(l, word{text: text[start:i], column: start + 1})
		}
		start = i + 1
	}
	return l
}

// A reader is a system as far as its text was read, and the lines in which its parts stand (0: not yet).
type reader struct {
	api.ScaleSystem
	systemLine, daysLine int
	caskLines, stepLines []int
}

// read reads one more line. Beside an error stands its column.
func (r *reader) read(l line) (int, api.Errno) {
	f, e := r.formOf(l.words[0].text)
	if e != api.OK {
		return l.words[0].column, e
	}
	x, column, e := l.contentOf(f)
	if e != api.OK {
		return column, e
	}
	r.take(x, l.number)
	return 0, api.OK
}

// formOf is the form of a line by its first word, or the error of this word at this place.
func (r *reader) formOf(first string) (int, api.Errno) {
	f, ok := 0, false
	for n := range len(forms) {
		if forms[n].word == first {
			f, ok = n, true
		}
	}
	if !ok || (f == formOfSystem) != (r.systemLine == 0) {
		return 0, api.ErrSyntax
	}
	if f == formOfDays && r.daysLine != 0 {
		return 0, api.ErrDouble
	}
	if f == formOfCask && r.daysLine != 0 || f > formOfDays && r.daysLine == 0 {
		return 0, api.ErrOrder
	}
	return f, api.OK
}

// contentOf reads the further words of a line, of a form. Beside an error stands its column.
func (l line) contentOf(f int) (content, int, api.Errno) {
	x := content{form: f}
	least := forms[f].names + forms[f].numbers
	for n, w := range l.words[1:] {
		switch {
		case n >= least && !forms[f].more:
			return content{}, w.column, api.ErrSyntax
		case n < forms[f].names || forms[f].numbers == 0:
			if !texts.IsName(w.text) {
				return content{}, w.column, api.ErrName
			}
			x.names = append(x.names, w.text)
		default:
			number, ok := texts.Number(w.text, digitsOfActs)
			if !ok {
				return content{}, w.column, api.ErrSyntax
			}
			x.numbers = append(x.numbers, number)
		}
	}
	if len(l.words)-1 < least {
		return content{}, l.end(), api.ErrMissing
	}
	return x, 0, api.OK
}

// take puts the content of a line into the system.
func (r *reader) take(x content, number int) {
	switch x.form {
	case formOfSystem:
		r.Name, r.systemLine = x.names[0], number
	case formOfCask:
		r.Casks = append(r.Casks, api.ScaleVessel{Name: x.names[0], Capacity: x.numbers[0], Start: x.numbers[1]})
		r.caskLines = append(r.caskLines, number)
	case formOfDays:
		r.Days, r.daysLine = x.numbers, number
	default:
		r.Steps = append(r.Steps, stepOf(x))
		r.stepLines = append(r.stepLines, number)
	}
}

func stepOf(x content) api.ScaleAct {
	k, _ := kindOf(forms[x.form].word)
	a := api.ScaleAct{Kind: k, Casks: x.names}
	if len(x.numbers) > 0 {
		a.Volume = x.numbers[0]
	}
	return a
}

// lineOf is the line of what a mark of the system names.
func (r *reader) lineOf(m api.ScaleMark) int {
	switch m.List {
	case api.ScaleVessels:
		return r.caskLines[m.Number]
	case api.ScaleDays:
		return r.daysLine
	case api.ScaleSteps:
		return r.stepLines[m.Number]
	}
	return r.systemLine
}
