package house

import (
	"strconv"
	"strings"

	"criadera/api"
	"criadera/certify"
	"criadera/texts"
)

// nothing stands in the place of what there is not.
const nothing = "-"

// A topic is a line of the report about the whole house: its word, and what stands behind it, which answers the word as a question.
type topic struct {
	word string
	told func(b *book) string
}

func topics() []topic {
	return []topic{
		{"balance", (*book).balanceTold},
		{"duty", (*book).dutyTold},
		{"suspects", (*book).suspectsTold},
		{"unexplained", func(b *book) string { return toldOf(b.unexplained()) }},
	}
}

func (b *book) balanceTold() string {
	x := b.balance()
	return texts.Line(nil, x.In, x.Held, x.Sold, x.Lost)
}

func (b *book) dutyTold() string { return texts.Line(nil, b.Due, b.Paid) }

func (b *book) suspectsTold() string {
	l, e := b.suspects()
	if e != api.OK {
		return "many"
	}
	return toldOf(l)
}

func toldOf(l []int) string {
	if len(l) == 0 {
		return nothing
	}
	return texts.Line(nil, l...)
}

// caskTold is the line of a cask.
func (b *book) caskTold(c api.ScaleCask) string {
	class, e := b.class(c.Name)
	if e != api.OK {
		class = nothing
	}
	words := []string{c.Name, strconv.Itoa(volumeOf(c.Wine)), class, b.ageTold(c)}
	if b.isSealed(c.Name) {
		words = append(words, "sealed")
	}
	return texts.Line(words)
}

func (b *book) ageTold(c api.ScaleCask) string {
	age, e := b.age(c)
	if e != api.OK {
		return nothing
	}
	return strconv.Itoa(age.Num) + "/" + strconv.Itoa(age.Den)
}

func (b *book) report() string {
	var t strings.Builder
	write := func(word, told string) { t.WriteString(word + " " + told + "\n") }
	for _, c := range b.Wine.Casks {
		write("cask", b.caskTold(c))
	}
	for _, x := range topics() {
		write(x.word, x.told(b))
	}
	for _, c := range b.Certificates {
		write("certified", certify.FormatCertificate(c))
	}
	return t.String()
}

// Report returns the report.
func Report(h api.House, log []api.HouseEntry) (string, api.Errno) {
	return asked(h, log, func(b *book) (string, api.Errno) { return b.report(), api.OK })
}

// answer is the answer to a question. It may have a further word, which is a name.
func (b *book) answer(question string) (string, api.Errno) {
	words, isFormed := wordsOf(question)
	switch {
	case isFormed && len(words) == 1:
		for _, x := range topics() {
			if x.word == question {
				return x.told(b), api.OK
			}
		}
	case isFormed && len(words) == 2 && words[0] == "cask":
		return b.answerCask(words[1])
	case isFormed && len(words) == 2 && words[0] == "certificate":
		return b.answerCertificate(words[1])
	}
	return "", api.ErrSyntax
}

func (b *book) answerCask(name string) (string, api.Errno) {
	c, e := b.cask(name)
	if e != api.OK {
		return "", e
	}
	return b.caskTold(c), api.OK
}

func (b *book) answerCertificate(name string) (string, api.Errno) {
	n := b.certificateOf(name)
	if n < 0 {
		return "", api.ErrMissing
	}
	return certify.FormatCertificate(b.Certificates[n]), api.OK
}

// Ask returns the answer to a question.
func Ask(h api.House, log []api.HouseEntry, question string) (string, api.Errno) {
	return asked(h, log, func(b *book) (string, api.Errno) { return b.answer(question) })
}
