package scale

import (
	"math/bits"
	"slices"

	"criadera/api"
	"criadera/lowest"
)

// CheckWine returns the first error of a wine.
func CheckWine(w api.ScaleWine) api.Errno {
	if !within(w.Den, 1, api.MaxScaleDen) {
		return api.ErrRange
	}
	if len(w.Parts) > api.MaxScaleParts {
		return api.ErrLarge
	}
	if e := checkParts(w.Parts); e != api.OK {
		return e
	}
	sum := sumOf(w)
	switch {
	case sum > api.MaxScaleTotal*w.Den:
		return api.ErrLarge
	case sum%w.Den != 0 || divisorOf(w) != 1:
		return api.ErrForm
	}
	return api.OK
}

// VolumeOf returns the volume of a wine.
func VolumeOf(w api.ScaleWine) (int, api.Errno) {
	if e := CheckWine(w); e != api.OK {
		return 0, e
	}
	return volumeOf(w), api.OK
}

// ShareOf returns how much of a source is in a wine, in parts of Unit of its volume, rounded down and up.
func ShareOf(w api.ScaleWine, source int) (api.Range, api.Errno) {
	if e := CheckWine(w); e != api.OK {
		return api.Range{}, e
	}
	if !isSource(source) {
		return api.Range{}, api.ErrRange
	}
	sum := sumOf(w)
	if sum == 0 {
		return api.Range{}, api.ErrZero
	}
	high, low := bits.Mul64(uint64(amountOf(w, source)), api.Unit)
	down, rest := bits.Div64(high, low, uint64(sum))
	share := api.Range{Lo: int(down), Hi: int(down)}
	if rest > 0 {
		share.Hi++
	}
	return share, api.OK
}

// Mixed returns the mixture of two wines.
func Mixed(a, b api.ScaleWine) (api.ScaleWine, api.Errno) {
	if e := CheckWine(a); e != api.OK {
		return api.ScaleWine{}, e
	}
	if e := CheckWine(b); e != api.OK {
		return api.ScaleWine{}, e
	}
	return loosened(a).mixed(loosened(b)).tightened()
}

// Part returns a part of a wine, of a volume.
func Part(w api.ScaleWine, volume int) (api.ScaleWine, api.Errno) {
	if e := CheckWine(w); e != api.OK {
		return api.ScaleWine{}, e
	}
	whole := volumeOf(w)
	if !within(volume, 0, whole) {
		return api.ScaleWine{}, api.ErrRange
	}
	return loosened(w).part(volume, whole).tightened()
}

func isSource(n int) bool { return within(n, 0, api.ScaleMust) }

func checkParts(l []api.ScalePart) api.Errno {
	before := -1
	_, e := firstWrong(l, func(p api.ScalePart) api.Errno {
		if !isSource(p.Source) || !within(p.Amount, 1, api.MaxScaleAmount) {
			return api.ErrRange
		}
		if p.Source <= before {
			return api.ErrOrder
		}
		before = p.Source
		return api.OK
	})
	return e
}

// sumOf is the sum of all amounts. Of a wine that is too large it is some number that shows this: all of them might come to more than an int holds.
func sumOf(w api.ScaleWine) int {
	sum := 0
	for _, p := range w.Parts {
		if sum > api.MaxScaleTotal*w.Den {
			return sum
		}
		sum += p.Amount
	}
	return sum
}

// divisorOf is the greatest number that divides the denominator and all amounts.
func divisorOf(w api.ScaleWine) int {
	d := w.Den
	for _, p := range w.Parts {
		d = lowest.Divisor(d, p.Amount)
	}
	return d
}

// volumeOf is the volume of a right wine.
func volumeOf(w api.ScaleWine) int { return sumOf(w) / w.Den }

func amountOf(w api.ScaleWine, source int) int {
	for _, p := range w.Parts {
		if p.Source == source {
			return p.Amount
		}
	}
	return 0
}

// noWine is the empty wine.
func noWine() api.ScaleWine { return api.ScaleWine{Den: 1} }

// pure is a volume of the wine of one source.
func pure(source, volume int) api.ScaleWine {
	if volume == 0 {
		return noWine()
	}
	return api.ScaleWine{Den: 1, Parts: []api.ScalePart{{Source: source, Amount: volume}}}
}

// isSame tells whether two right wines are the same; both are in lowest terms.
func isSame(a, b api.ScaleWine) bool { return a.Den == b.Den && slices.Equal(a.Parts, b.Parts) }

func cloneWine(w api.ScaleWine) api.ScaleWine {
	w.Parts = slices.Clone(w.Parts)
	return w
}
