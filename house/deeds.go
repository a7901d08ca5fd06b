package house

import (
	"slices"

	"criadera/api"
	"criadera/certify"
	"criadera/checks"
	"criadera/taste"
)

// A day is that of the book from now on.
type day int

func (d day) do(b *book) api.Errno {
	to := int(d)
	if e := checks.First(checks.Date(to), checks.Unless(to >= b.Day, api.ErrOrder)); e != api.OK {
		return e
	}
	b.Day = to
	return api.OK
}

// A gauging is what a cask held today.
type gauging struct{ api.GaugeReading }

func (x gauging) do(b *book) api.Errno {
	if e := checks.First(
		b.caskError(x.Cask),
		checks.Unless(x.Day == b.Day, api.ErrClash),
		checks.Unless(len(b.Gaugings) < api.MaxGaugeReadings, api.ErrFull)); e != api.OK {
		return e
	}
	b.Gaugings = append(b.Gaugings, x.GaugeReading)
	return api.OK
}

// A sheet is further marks of a cask.
type sheet struct{ api.TasteSheet }

func (x sheet) do(b *book) api.Errno {
	n := b.sheetOf(x.Cask)
	whole := x.TasteSheet
	if n >= 0 {
		whole.Marks = slices.Concat(b.Sheets[n].Marks, x.Marks)
	}
	_, e := taste.ClassOf(b.Rules, whole)
	if e := checks.First(b.caskError(x.Cask), e); e != api.OK {
		return e
	}
	if n < 0 {
		b.Sheets = append(b.Sheets, whole)
	} else {
		b.Sheets[n] = whole
	}
	return api.OK
}

// sheetOf is the number of the sheet of a cask (-1 if it has none).
func (b *book) sheetOf(cask string) int {
	return slices.IndexFunc(b.Sheets, func(x api.TasteSheet) bool { return x.Cask == cask })
}

// A loss is one that is reported.
type loss struct{ api.FlorLoss }

func (x loss) do(b *book) api.Errno {
	if e := checks.First(b.caskError(x.Cask), checks.Unless(x.To <= b.Day, api.ErrOrder)); e != api.OK {
		return e
	}
	b.Losses = append(b.Losses, x.FlorLoss)
	return api.OK
}

// A duty is the rate from now on.
type duty int

func (d duty) do(b *book) api.Errno {
	if e := checks.Number(int(d), 0, api.MaxHouseRate); e != api.OK {
		return e
	}
	b.Rate = int(d)
	return api.OK
}

// A payment is of what is due.
type payment int

func (p payment) do(b *book) api.Errno {
	amount := int(p)
	if e := checks.First(checks.Number(amount, 1, api.MaxHousePay), checks.Unless(amount <= b.Due-b.Paid, api.ErrLarge)); e != api.OK {
		return e
	}
	b.Paid += amount
	return api.OK
}

// A line is one more of the book of the old wine: a part, or an entry.
type line string

func (l line) do(b *book) api.Errno {
	if len(b.Certificates) > 0 {
		return api.ErrState
	}
	before, _ := certify.Print(b.Old) // nothing if there are no parts yet, since no such book is right
	old, _, e := certify.Parse(before + string(l) + "\n")
	if e != api.OK {
		return e
	}
	b.Old = old
	return api.OK
}

// A certificate is one of the old wine.
type certificate struct{ api.CertifyCertificate }

func (c certificate) do(b *book) api.Errno {
	if e := checks.First(
		checks.Unless(b.certificateOf(c.Name) < 0, api.ErrExists),
		certify.CheckCertificate(b.Old, c.CertifyCertificate)); e != api.OK {
		return e
	}
	b.Certificates = append(b.Certificates, c.CertifyCertificate)
	return api.OK
}

// certificateOf is the number of the certificate of a name (-1 if there is none).
func (b *book) certificateOf(name string) int {
	return slices.IndexFunc(b.Certificates, func(c api.CertifyCertificate) bool { return c.Name == name })
}

// A seal is on a cask, until its opening.
type seal string

func (s seal) do(b *book) api.Errno {
	cask := string(s)
	if e := checks.First(b.caskError(cask), checks.Unless(!b.isSealed(cask), api.ErrDouble)); e != api.OK {
		return e
	}
	b.Sealed = append(b.Sealed, cask)
	return api.OK
}

// An opening is of a sealed cask.
type opening string

func (o opening) do(b *book) api.Errno {
	cask := string(o)
	if e := checks.First(b.caskError(cask), checks.Unless(b.isSealed(cask), api.ErrState)); e != api.OK {
		return e
	}
	b.Sealed = slices.DeleteFunc(b.Sealed, func(name string) bool { return name == cask })
	return api.OK
}
