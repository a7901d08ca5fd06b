package certify

import (
	"criadera/api"
	"criadera/checks"
	"criadera/corners"
	"criadera/lowest"
	"criadera/ranges"
	"criadera/rows"
)

// least is the least value of all mixes that a book permits, by the worth of each part, and whether it permits any. The planes of entries are told such that Most is 0, since all shares are 1 together; so Level of the proof has the Most of all of them, too.
func (b book) least(worths []int) (api.CertifyAnswer, bool) {
	t := corners.Task{One: b.perPart(func(api.CertifyPart) int { return 1 }), Worth: worths}
	for _, x := range b.Entries {
		t.Planes = append(t.Planes, excess(x))
	}
	c, ok := corners.Least(t)
	if !ok {
		return api.CertifyAnswer{}, false
	}
	mix := lowest.Terms(append([]int{c.Den}, c.Parts...)...)
	proof := lowest.Terms(append([]int{c.Den, c.Value + rows.ComesTo(c.Weights, b.mosts())}, c.Weights...)...)
	return api.CertifyAnswer{
		Value: lowest.Fraction(c.Value, c.Den),
		Mix:   api.CertifyMix{Den: mix[0], Parts: mix[1:]},
		Proof: api.CertifyProof{Den: proof[0], Level: proof[1], Weights: proof[2:]},
	}, true
}

// excess is by how much a wine of each part alone has more than an entry permits.
func excess(x api.CertifyEntry) []int {
	l := make([]int, 0, len(x.Coefs))
	for _, coef := range x.Coefs {
		l = append(l, coef-x.Most)
	}
	return l
}

// permitsAny tells whether a book permits a mix.
func (b book) permitsAny() bool {
	_, ok := b.least(make([]int, len(b.Parts)))
	return ok
}

// ends is the least value of all mixes that a book permits, by some worths, and the greatest one, by others; and whether it permits any. Both are looked for at once.
func (b book) ends(least, greatest []int) (lo, hi [2]int, ok bool) {
	found := make(chan [2]int)
	go func() {
		x, _ := b.least(rows.Opposites(greatest))
		found <- [2]int{-x.Value[0], x.Value[1]}
	}()
	x, ok := b.least(least)
	return x.Value, <-found, ok
}

// told is the range of values by their ends, told in so many parts.
func (b book) told(least, greatest []int, parts int) (api.Range, api.Errno) {
	lo, hi, ok := b.ends(least, greatest)
	if !ok {
		return api.Range{}, api.ErrNone
	}
	return api.Range{Lo: ranges.Floor(parts*lo[0], lo[1]), Hi: ranges.Ceiling(parts*hi[0], hi[1])}, api.OK
}

// Least returns the least value, a mix that has it, and a proof.
func Least(b api.CertifyBook, a api.CertifyAsk) (api.CertifyAnswer, api.Errno) {
	checked, e := askedOf(b, a)
	if e != api.OK {
		return api.CertifyAnswer{}, e
	}
	x, ok := checked.least(checked.worths(a))
	return x, checks.Unless(ok, api.ErrNone)
}

// ShareOf returns the least and the greatest share of a part, in thousandths.
func ShareOf(b api.CertifyBook, part int) (api.Range, api.Errno) {
	checked, e := bookOf(b)
	if e := checks.First(e, checks.Element(part, len(b.Parts))); e != api.OK {
		return api.Range{}, e
	}
	shares := make([]int, len(b.Parts))
	shares[part] = 1
	return checked.told(shares, shares, thousand)
}

// hundred is how many parts of a year ages are told in.
const hundred = 100

// AgeOf returns between which ages the mean one lies, in hundredths of a year.
func AgeOf(b api.CertifyBook) (api.Range, api.Errno) {
	checked, e := bookOf(b)
	if e != api.OK {
		return api.Range{}, e
	}
	youngest := checked.perPart(func(p api.CertifyPart) int { return p.Age.Lo })
	oldest := checked.perPart(func(p api.CertifyPart) int { return p.Age.Hi })
	return checked.told(youngest, oldest, hundred)
}
