package house

import (
	"criadera/api"
	"criadera/exact"
	"criadera/gauge"
	"criadera/scale"
	"criadera/taste"
)

// volumeOf is the volume of a wine of the book, which is right.
func volumeOf(w api.ScaleWine) int {
	volume, _ := scale.VolumeOf(w)
	return volume
}

func (b *book) balance() api.HouseBalance {
	x := api.HouseBalance{In: volumeOf(b.Wine.In), Sold: volumeOf(b.Wine.Sold), Lost: volumeOf(b.Wine.Lost)}
	for _, c := range b.Wine.Casks {
		x.Held += volumeOf(c.Wine)
	}
	return x
}

// BalanceOf returns the balance.
func BalanceOf(h api.House, log []api.HouseEntry) (api.HouseBalance, api.Errno) {
	return asked(h, log, func(b *book) (api.HouseBalance, api.Errno) { return b.balance(), api.OK })
}

// meanAge is the mean age of all vintages in a wine, in a year. Amounts times years outgrow an int.
func meanAge(w api.ScaleWine, year int) (api.Frac, api.Errno) {
	var all, born exact.Nat
	for _, p := range w.Parts {
		if p.Source <= api.MaxVintage {
			amount := exact.Of(p.Amount)
			all = all.Plus(amount)
			born = born.Plus(amount.Times(exact.Of(p.Source)))
		}
	}
	if all.IsZero() {
		return api.Frac{}, api.ErrEmpty
	}
	now := all.Times(exact.Of(year))
	older, younger := now.Minus(born), born.Minus(now) // one of them is 0
	divisor := exact.Gcd(all, older.Plus(younger))
	num, isSmall := smallOver(older.Plus(younger), divisor)
	den, isSmallToo := smallOver(all, divisor)
	if !isSmall || !isSmallToo {
		return api.Frac{}, api.ErrLarge
	}
	if older.IsZero() {
		num = -num
	}
	return api.Frac{Num: num, Den: den}, api.OK
}

// smallOver is a number divided by a divisor of it, and whether a part of a small fraction may be so large.
func smallOver(n, divisor exact.Nat) (int, bool) {
	quotient, _ := n.Over(divisor)
	small, ok := quotient.Int()
	return small, ok && small <= api.MaxPart
}

func (b *book) age(c api.ScaleCask) (api.Frac, api.Errno) { return meanAge(c.Wine, b.Day/api.Year) }

// AgeOf returns the mean age of a cask.
func AgeOf(h api.House, log []api.HouseEntry, cask string) (api.Frac, api.Errno) {
	return asked(h, log, func(b *book) (api.Frac, api.Errno) {
		c, e := b.cask(cask)
		if e != api.OK {
			return api.Frac{}, e
		}
		return b.age(c)
	})
}

// class is the class of a cask by its sheet, or the error if it has none.
func (b *book) class(cask string) (string, api.Errno) {
	n := b.sheetOf(cask)
	if n < 0 {
		return "", api.ErrNone
	}
	return taste.ClassOf(b.Rules, b.Sheets[n])
}

// ClassOf returns the class of a cask.
func ClassOf(h api.House, log []api.HouseEntry, cask string) (string, api.Errno) {
	return asked(h, log, func(b *book) (string, api.Errno) {
		if e := b.caskError(cask); e != api.OK {
			return "", e
		}
		return b.class(cask)
	})
}

func (b *book) gaugeBook() api.GaugeBook {
	return api.GaugeBook{Loss: b.Loss, Readings: b.Gaugings, Moves: b.Moves}
}

// BookOf returns the book of gaugings.
func BookOf(h api.House, log []api.HouseEntry) (api.GaugeBook, api.Errno) {
	return asked(h, log, func(b *book) (api.GaugeBook, api.Errno) { return b.gaugeBook(), api.OK })
}

func (b *book) suspects() ([]int, api.Errno) { return gauge.Blamed(b.gaugeBook()) }

// Suspects returns the gaugings that are to blame for contradictions.
func Suspects(h api.House, log []api.HouseEntry) ([]int, api.Errno) {
	return asked(h, log, (*book).suspects)
}

// isExplained tells whether acts bear a reported loss out.
func (b *book) isExplained(x api.FlorLoss) bool {
	sum := 0
	for _, lost := range b.Lost {
		if lost.Cask == x.Cask && x.From <= lost.Day && lost.Day <= x.To {
			sum += lost.Volume
		}
	}
	return x.Volume.Lo <= sum && sum <= x.Volume.Hi
}

func (b *book) unexplained() []int {
	var l []int
	for n, x := range b.Losses {
		if !b.isExplained(x) {
			l = append(l, n)
		}
	}
	return l
}

// Unexplained returns the numbers of all reported losses that acts do not bear out.
func Unexplained(h api.House, log []api.HouseEntry) ([]int, api.Errno) {
	return asked(h, log, func(b *book) ([]int, api.Errno) { return b.unexplained(), api.OK })
}
