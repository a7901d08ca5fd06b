package taste

import (
	"slices"
	"strings"

	"criadera/api"
	"criadera/texts"
)

// The first words of lines.
const (
	wordOfMarks = "marks"
	wordOfBegin = "begin"
	wordOfClass = "class"
)

// ahead stands between a class to which a mark leads, and the reason.
const ahead = "/"

// fewestLines is how many lines each rule book has, at least.
const fewestLines = 3

// FormatBook returns the text of a rule book ("" if it is not right).
func FormatBook(b api.TasteBook) string {
	checked, e := bookOf(b)
	if e != api.OK {
		return ""
	}
	return checked.text()
}

func (b book) text() string {
	names := namesOf(b.Classes)
	t := lineOf(wordOfMarks, b.Marks...) + lineOf(wordOfBegin, names[b.Begin])
	for _, c := range b.Classes {
		words := []string{c.Name}
		for mark, class := range c.Next {
			words = append(words, names[class]+ahead+c.Reasons[mark])
		}
		t += lineOf(wordOfClass, words...)
	}
	return t
}

func lineOf(first string, words ...string) string {
	return texts.Line(slices.Concat([]string{first}, words)) + "\n"
}

// A draft is a rule book as far as its text is read, with the names of classes in the place of their numbers.
type draft struct {
	api.TasteBook
	begin string
	next  [][]string
}

// ParseBook returns the rule book with a text. Beside ErrSyntax stands the number of the first wrong line.
func ParseBook(t string) (api.TasteBook, int, api.Errno) {
	if len(t) > api.MaxTasteLine {
		return api.TasteBook{}, 0, api.ErrLarge
	}
	d, wrong := readDraft(t)
	if wrong > 0 {
		return api.TasteBook{}, wrong, api.ErrSyntax
	}
	if !d.number() {
		return api.TasteBook{}, 0, api.ErrMissing
	}
	if _, e := CheckBook(d.TasteBook); e != api.OK {
		return api.TasteBook{}, 0, e
	}
	return d.TasteBook, 0, api.OK
}

// readDraft reads a text line by line, up to the first wrong one, and returns its number (0 if there is none).
func readDraft(t string) (draft, int) {
	var d draft
	for number := 1; number <= fewestLines || t != ""; number++ {
		line, rest, isEnded := strings.Cut(t, "\n")
		words := strings.Split(line, " ")
		if !isEnded || slices.Contains(words, "") || !d.read(number, words[0], words[1:]) {
			return draft{}, number
		}
		t = rest
	}
	return d, 0
}

// read puts what a line tells into the draft, and tells whether the line is right.
func (d *draft) read(number int, first string, words []string) bool {
	switch number {
	case 1:
		d.Marks = words
		return first == wordOfMarks && len(words) > 0
	case 2:
		d.begin = strings.Join(words, " ")
		return first == wordOfBegin && len(words) == 1
	}
	return first == wordOfClass && len(words) == 1+len(d.Marks) && d.readClass(words[0], words[1:])
}

// readClass puts a class and its steps into the draft, and tells whether the steps are right.
func (d *draft) readClass(name string, steps []string) bool {
	c := api.TasteClass{Name: name}
	var next []string
	for _, step := range steps {
		class, reason, ok := strings.Cut(step, ahead)
		if !ok || strings.Contains(reason, ahead) {
			return false
		}
		next = append(next, class)
		c.Reasons = append(c.Reasons, reason)
	}
	d.Classes, d.next = append(d.Classes, c), append(d.next, next)
	return true
}

// number puts the numbers of classes in the place of their names, and tells whether there are classes of all names.
func (d *draft) number() bool {
	names := namesOf(d.Classes)
	isThere := true
	numberOf := func(name string) int {
		n := slices.Index(names, name)
		isThere = isThere && n >= 0
		return n
	}
	d.Begin = numberOf(d.begin)
	for n, next := range d.next {
		for _, name := range next {
			d.Classes[n].Next = append(d.Classes[n].Next, numberOf(name))
		}
	}
	return isThere
}
