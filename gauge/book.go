package gauge

import (
	"criadera/api"
	"criadera/checks"
)

func gaugingError(x api.GaugeReading) api.Errno {
	return checks.First(checks.Name(x.Cask), checks.Date(x.Day), checks.Range(x.Volume, api.MaxVolume))
}

// placeError asks for a cask, or for the outside.
func placeError(name string) api.Errno {
	if name == "" {
		return api.OK
	}
	return checks.Name(name)
}

func moveError(m api.GaugeMove) api.Errno {
	return checks.First(
		checks.Date(m.Day),
		placeError(m.From),
		placeError(m.To),
		checks.Unless(m.From != m.To, api.ErrForm),
		checks.Number(m.Volume, 0, api.MaxVolume))
}

// CheckBook returns the first error of a book, and what of it is wrong.
func CheckBook(b api.GaugeBook) (api.GaugeMark, api.Errno) {
	if e := checks.First(
		checks.Range(b.Loss, api.MaxGaugeLoss),
		checks.Unless(len(b.Readings) <= api.MaxGaugeReadings, api.ErrLarge),
		checks.Unless(len(b.Moves) <= api.MaxGaugeMoves, api.ErrLarge)); e != api.OK {
		return api.GaugeMark{}, e
	}
	if n, e := firstWrong(b.Readings, gaugingError, func(before, x api.GaugeReading) bool { return before.Day <= x.Day }); e != api.OK {
		return api.GaugeMark{List: api.GaugeReadings, Number: n}, e
	}
	if n, e := firstWrong(b.Moves, moveError, func(before, m api.GaugeMove) bool { return before.Day <= m.Day }); e != api.OK {
		return api.GaugeMark{List: api.GaugeMoves, Number: n}, e
	}
	return api.GaugeMark{}, api.OK
}

// A book is a checked one.
type book struct{ api.GaugeBook }

func bookOf(b api.GaugeBook) (book, api.Errno) {
	if _, e := CheckBook(b); e != api.OK {
		return book{}, e
	}
	return book{b}, api.OK
}

// readingError asks for a gauging of this number.
func (b book) readingError(reading int) api.Errno {
	return checks.Element(reading, len(b.Readings))
}

// net is the net of a cask behind a day, up to another one.
func (b book) net(cask string, behind, upTo int) int {
	net := 0
	for _, m := range b.Moves {
		if m.Day <= behind || m.Day > upTo {
			continue
		}
		if m.To == cask {
			net += m.Volume
		}
		if m.From == cask {
			net -= m.Volume
		}
	}
	return net
}

// NetOf returns the net of a cask behind the first day, up to the second one.
func NetOf(b api.GaugeBook, cask string, days [2]int) (int, api.Errno) {
	checked, e := bookOf(b)
	if e := checks.First(e, checks.Name(cask), checks.Date(days[0]), checks.Date(days[1]), checks.Unless(days[0] <= days[1], api.ErrOrder)); e != api.OK {
		return 0, e
	}
	return checked.net(cask, days[0], days[1]), api.OK
}
