package certify

import (
	"errors"
	"strings"

	"criadera/api"
	"criadera/checks"
)

// The most digits of numbers in the text of a certificate, and in that of a book.
const (
	digitsOfCertificates = 13
	digitsOfBooks        = 6
)

// FormatCertificate returns the text of a certificate ("" if its kind is none).
func FormatCertificate(c api.CertifyCertificate) string {
	if !hasKind(c.Ask) {
		return ""
	}
	return textOf(c.Name, c.Ask, c.Value, c.Proof.Den, c.Proof.Level, c.Proof.Weights)
}

// ParseCertificate returns the certificate with a text.
func ParseCertificate(s string) (api.CertifyCertificate, api.Errno) {
	var c api.CertifyCertificate
	p := &c.Proof
	if !isRead(s, digitsOfCertificates, &c.Name, &c.Ask, &c.Value, &p.Den, &p.Level, &p.Weights) {
		return api.CertifyCertificate{}, api.ErrSyntax
	}
	if e := checks.First(
		checks.Name(c.Name),
		CheckAsk(c.Ask),
		numberError(c.Value),
		rangesError(c.Proof),
		checks.Unless(len(p.Weights) <= api.MaxCertifyEntries, api.ErrLarge)); e != api.OK {
		return api.CertifyCertificate{}, e
	}
	return c, api.OK
}

// Print returns the text of a book.
func Print(b api.CertifyBook) (string, api.Errno) {
	if _, e := CheckBook(b); e != api.OK {
		return "", e
	}
	var t strings.Builder
	for _, p := range b.Parts {
		t.WriteString(textOf("part", p.Name, p.Age, p.Carbon) + "\n")
	}
	for _, x := range b.Entries {
		t.WriteString(textOf("entry", x.Name, x.Most, x.Coefs) + "\n")
	}
	return t.String(), api.OK
}

// A wrongLine is the error of a line that has not its form, told by its number from 1 on.
type wrongLine struct{ number int }

func (e wrongLine) Error() string { return textOf("line", e.number) }

// Parse returns the book with a text. Beside ErrSyntax stands the number of the first wrong line.
func Parse(t string) (api.CertifyBook, int, api.Errno) {
	if len(t) > api.MaxText {
		return api.CertifyBook{}, 0, api.ErrLarge
	}
	b, err := readBook(t)
	var wrong wrongLine
	if errors.As(err, &wrong) {
		return api.CertifyBook{}, wrong.number, api.ErrSyntax
	}
	if _, e := CheckBook(b); e != api.OK {
		return api.CertifyBook{}, 0, e
	}
	return b, 0, api.OK
}

// readBook reads a text line by line, up to the first wrong one.
func readBook(t string) (api.CertifyBook, error) {
	var b api.CertifyBook
	for number := 1; t != ""; number++ {
		line, rest, isEnded := strings.Cut(t, "\n")
		if !isEnded || !readLine(line, &b) {
			return api.CertifyBook{}, wrongLine{number}
		}
		t = rest
	}
	return b, nil
}

// readLine puts the part or the entry of a line into the book, and tells whether the line is right behind the lines before.
func readLine(line string, b *api.CertifyBook) bool {
	var p api.CertifyPart
	var x api.CertifyEntry
	switch {
	case len(b.Entries) == 0 && isRead(line, digitsOfBooks, "part", &p.Name, &p.Age, &p.Carbon):
		b.Parts = append(b.Parts, p)
	case isRead(line, digitsOfBooks, "entry", &x.Name, &x.Most, &x.Coefs):
		b.Entries = append(b.Entries, x)
	default:
		return false
	}
	return true
}
