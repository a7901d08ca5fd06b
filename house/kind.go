package house

import (
	"strings"

	"criadera/api"
	"criadera/certify"
	"criadera/checks"
	"criadera/flor"
	"criadera/gauge"
	"criadera/scale"
	"criadera/taste"
	"criadera/texts"
)

// A deed is what an entry does: it changes a book, or has an error there.
type deed interface{ do(b *book) api.Errno }

// A kind is what is told of a kind of entries: the first role that may make them, and what the words of one do. None of these is empty, and the first one is that of the kind.
type kind struct {
	role int
	read func(words []string) (deed, api.Errno)
}

// kindOf is the kind of a word, and whether there is one.
func kindOf(word string) (kind, bool) {
	ofAct := kind{api.RoleCellar, from(0, scale.ParseAct, func(a api.ScaleAct) deed { return act{a} })}
	ofLine := kind{api.RoleClerk, from(0, readAny, func(text string) deed { return line(text) })}
	k, ok := map[string]kind{
		"day":     {api.RoleCellar, from(1, readNumber, func(n int) deed { return day(n) })},
		"cask":    ofAct,
		"fill":    ofAct,
		"draw":    ofAct,
		"move":    ofAct,
		"lose":    ofAct,
		"join":    ofAct,
		"gauge":   {api.RoleCellar, from(1, gauge.ParseGauging, func(x api.GaugeReading) deed { return gauging{x} })},
		"sheet":   {api.RoleTaster, from(1, taste.ParseSheet, func(x api.TasteSheet) deed { return sheet{x} })},
		"loss":    {api.RoleClerk, from(1, flor.ParseLoss, func(x api.FlorLoss) deed { return loss{x} })},
		"pay":     {api.RoleClerk, from(1, readNumber, func(n int) deed { return payment(n) })},
		"part":    ofLine,
		"entry":   ofLine,
		"certify": {api.RoleClerk, from(1, certify.ParseCertificate, func(c api.CertifyCertificate) deed { return certificate{c} })},
		"seal":    {api.RoleInspector, from(1, readWord, func(cask string) deed { return seal(cask) })},
		"open":    {api.RoleInspector, from(1, readWord, func(cask string) deed { return opening(cask) })},
		"duty":    {api.RoleInspector, from(1, readNumber, func(n int) deed { return duty(n) })},
	}[word]
	return k, ok
}

// from reads the words of an entry, from the one of this number on, as one text. If there are none the text is empty, which is neither a number nor a word, nor a text of another chapter.
func from[T any](first int, read func(text string) (T, api.Errno), does func(x T) deed) func(words []string) (deed, api.Errno) {
	return func(words []string) (deed, api.Errno) {
		x, e := read(strings.Join(words[first:], " "))
		if e != api.OK {
			return nil, e
		}
		return does(x), api.OK
	}
}

// mostDigits is the most digits of numbers that belong to an entry itself.
const mostDigits = 9

func readNumber(text string) (int, api.Errno) {
	n, ok := texts.Signed(text, mostDigits)
	return n, checks.Unless(ok, api.ErrSyntax)
}

// readWord reads one word, whatever it is.
func readWord(text string) (string, api.Errno) {
	return text, checks.Unless(text != "" && !strings.Contains(text, " "), api.ErrSyntax)
}

// readAny reads all words as they are: what they mean depends on the book.
func readAny(text string) (string, api.Errno) { return text, api.OK }
