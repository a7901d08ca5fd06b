package flor

import (
	"cmp"
	"math/big"
	"math/rand"
	"slices"

	"criadera/api"
)

// The chapter told anew, in fractions: what is a true wine, what becomes of it, and what is told of all true ones.

func rat(n int) *big.Rat { return new(big.Rat).SetInt64(int64(n)) }

func plus(a, b *big.Rat) *big.Rat { return new(big.Rat).Add(a, b) }

func less(a, b *big.Rat) *big.Rat { return new(big.Rat).Sub(a, b) }

func times(a, b *big.Rat) *big.Rat { return new(big.Rat).Mul(a, b) }

func over(a, b *big.Rat) *big.Rat { return new(big.Rat).Quo(a, b) }

func millionths(rate, days int) *big.Rat { return over(rat(rate*days), rat(1000000)) }

// lessOne is 1 less a number.
func lessOne(x *big.Rat) *big.Rat { return less(rat(1), x) }

func down(x *big.Rat) int {
	return int(new(big.Int).Div(x.Num(), x.Denom()).Int64())
}

func up(x *big.Rat) int { return -down(less(rat(0), x)) }

func around(lo, hi *big.Rat) api.Range { return from(down(lo), up(hi)) }

// has tells whether a number lies in a range.
func has(r api.Range, x *big.Rat) bool { return rat(r.Lo).Cmp(x) <= 0 && x.Cmp(rat(r.Hi)) <= 0 }

// A true wine lies in a cask.
type truth struct{ volume, strength, sugar *big.Rat }

func (x truth) liesIn(w api.FlorWine) bool {
	return has(w.Volume, x.volume) && has(w.Strength, x.strength) && has(w.Sugar, x.sugar)
}

// behind is what becomes of a true wine if it loses the shares f of its volume and g of its alcohol.
func (x truth) behind(f, g *big.Rat) truth {
	volume := times(x.volume, lessOne(f))
	return truth{volume, over(times(x.strength, lessOne(g)), lessOne(f)), over(x.sugar, lessOne(f))}
}

// mixedTruth is true wines, mixed; they are not all of the volume 0.
func mixedTruth(l []truth) truth {
	out := truth{rat(0), rat(0), rat(0)}
	for _, x := range l {
		out.volume = plus(out.volume, x.volume)
		out.strength = plus(out.strength, times(x.volume, x.strength))
		out.sugar = plus(out.sugar, times(x.volume, x.sugar))
	}
	return truth{out.volume, over(out.strength, out.volume), over(out.sugar, out.volume)}
}

// plainAfter is the wine behind some days, as the chapter's definition has it.
func plainAfter(w api.FlorWine, r api.FlorRate, days int) api.FlorWine {
	f, g := [2]*big.Rat{millionths(r.Wine.Lo, days), millionths(r.Wine.Hi, days)}, [2]*big.Rat{millionths(r.Alcohol.Lo, days), millionths(r.Alcohol.Hi, days)}
	return api.FlorWine{
		Volume:   around(times(rat(w.Volume.Lo), lessOne(f[1])), times(rat(w.Volume.Hi), lessOne(f[0]))),
		Strength: around(over(times(rat(w.Strength.Lo), lessOne(g[1])), lessOne(f[0])), over(times(rat(w.Strength.Hi), lessOne(g[0])), lessOne(f[1]))),
		Sugar:    around(over(rat(w.Sugar.Lo), lessOne(f[0])), over(rat(w.Sugar.Hi), lessOne(f[1]))),
	}
}

// A heap is an enclosed volume of one value.
type heap struct {
	volume api.Range
	value  int
}

// leastMean takes as much as there may be of the least values, and as little as there may be of the others, wherever these begin.
func leastMean(l []heap) *big.Rat {
	l = slices.Clone(l)
	slices.SortFunc(l, func(a, b heap) int { return cmp.Compare(a.value, b.value) })
	var least *big.Rat
	for many := range len(l) + 1 {
		total, all := 0, 0
		for n, x := range l {
			volume := x.volume.Lo
			if n < many {
				volume = x.volume.Hi
			}
			total, all = total+volume, all+volume*x.value
		}
		if total == 0 {
			continue
		}
		if mean := over(rat(all), rat(total)); least == nil || mean.Cmp(least) < 0 {
			least = mean
		}
	}
	return least
}

// plainMeans goes from the least mean of a value to the greatest one, which is the least one below 0.
func plainMeans(l []api.FlorWine, value func(w api.FlorWine) api.Range) api.Range {
	var low, high []heap
	for _, w := range l {
		low = append(low, heap{w.Volume, value(w).Lo})
		high = append(high, heap{w.Volume, -value(w).Hi})
	}
	return around(leastMean(low), less(rat(0), leastMean(high)))
}

func plainMixed(l []api.FlorWine) api.FlorWine {
	var out api.FlorWine
	for _, w := range l {
		out.Volume = from(out.Volume.Lo+w.Volume.Lo, out.Volume.Hi+w.Volume.Hi)
	}
	out.Strength = plainMeans(l, func(w api.FlorWine) api.Range { return w.Strength })
	out.Sugar = plainMeans(l, func(w api.FlorWine) api.Range { return w.Sugar })
	return out
}

// someRange is a random range of numbers up to a greatest one, often a narrow one, or one at an end.
func someRange(r *rand.Rand, most int) api.Range {
	switch a, b := r.Intn(most+1), r.Intn(most+1); r.Intn(5) {
	case 0:
		return from(a, a)
	case 1:
		return from(a, min(most, a+r.Intn(5)))
	case 2:
		return from(0, a)
	default:
		return from(min(a, b), max(a, b))
	}
}

func someWine(r *rand.Rand, volume, strength, sugar int) api.FlorWine {
	return api.FlorWine{Volume: someRange(r, volume), Strength: someRange(r, strength), Sugar: someRange(r, sugar)}
}

func someRate(r *rand.Rand, most int) api.FlorRate {
	return api.FlorRate{Wine: someRange(r, most), Alcohol: someRange(r, most)}
}

// someNumber is a random number of a range, often one of its ends.
func someNumber(r *rand.Rand, of api.Range) *big.Rat {
	parts := 1 + r.Intn(7)
	return plus(rat(of.Lo), over(rat((of.Hi-of.Lo)*r.Intn(parts+1)), rat(parts)))
}

func someTruth(r *rand.Rand, w api.FlorWine) truth {
	return truth{someNumber(r, w.Volume), someNumber(r, w.Strength), someNumber(r, w.Sugar)}
}

// someShare is what is lost in some days with a random rate of a range.
func someShare(r *rand.Rand, of api.Range, days int) *big.Rat {
	return over(times(someNumber(r, of), rat(days)), rat(1000000))
}

// someMeasure is a random enclosure of a number.
func someMeasure(r *rand.Rand, x *big.Rat, most int) api.Range {
	return from(max(0, down(x)-r.Intn(9)), min(most, up(x)+r.Intn(9)))
}

func measured(r *rand.Rand, x truth) api.FlorWine {
	return api.FlorWine{Volume: someMeasure(r, x.volume, api.MaxVolume), Strength: someMeasure(r, x.strength, api.MaxStrength), Sugar: someMeasure(r, x.sugar, api.MaxContent)}
}
