package gauge

import (
	"criadera/api"
	"criadera/texts"
)

// mostDigits is the most digits of numbers in texts.
const mostDigits = 9

// FormatGauging returns the text of a gauging, whatever it is.
func FormatGauging(x api.GaugeReading) string {
	return texts.Line([]string{x.Cask}, x.Day, x.Volume.Lo, x.Volume.Hi)
}

// ParseGauging returns the gauging with a text.
func ParseGauging(s string) (api.GaugeReading, api.Errno) {
	cask, l, ok := texts.WordAndNumbers(s, 3, mostDigits)
	if !ok {
		return api.GaugeReading{}, api.ErrSyntax
	}
	x := api.GaugeReading{Cask: cask, Day: l[0], Volume: api.Range{Lo: l[1], Hi: l[2]}}
	if e := gaugingError(x); e != api.OK {
		return api.GaugeReading{}, e
	}
	return x, api.OK
}
