package certify

import (
	"fmt"
	"math/big"
	"math/bits"
	"math/rand"

	"criadera/api"
)

// The chapter told anew, as plainly as its definitions are: shares are fractions, and the least value is the least one of all mixes that are the only ones to have some shares of 0 and some entries that are just met.

func ratio(num, den int) *big.Rat { return big.NewRat(int64(num), int64(den)) }

func sharesOf(m api.CertifyMix) []*big.Rat {
	var l []*big.Rat
	for _, n := range m.Parts {
		l = append(l, ratio(n, m.Den))
	}
	return l
}

// sumOf is the sum of all shares, each one so many times.
func sumOf(shares []*big.Rat, times []int) *big.Rat {
	sum := new(big.Rat)
	for i, x := range shares {
		sum.Add(sum, new(big.Rat).Mul(x, ratio(times[i], 1)))
	}
	return sum
}

func plainWorths(b api.CertifyBook, a api.CertifyAsk) []int {
	var l []int
	for _, p := range b.Parts {
		switch {
		case a.Kind == api.CertifyMean:
			l = append(l, p.Age.Lo)
		case p.Age.Lo >= a.Age:
			l = append(l, 1)
		default:
			l = append(l, 0)
		}
	}
	return l
}

func plainPermits(b api.CertifyBook, shares []*big.Rat) bool {
	sum := new(big.Rat)
	for _, x := range shares {
		if x.Sign() < 0 {
			return false
		}
		sum.Add(sum, x)
	}
	for _, x := range b.Entries {
		if sumOf(shares, x.Coefs).Cmp(ratio(x.Most, 1)) > 0 {
			return false
		}
	}
	return sum.Cmp(ratio(1, 1)) == 0
}

// plainBound is the bound that a proof proves by worths, if it proves one.
func plainBound(b api.CertifyBook, worths []int, p api.CertifyProof) (*big.Rat, bool) {
	for i, worth := range worths {
		sum := new(big.Int).Mul(big.NewInt(int64(worth)), big.NewInt(int64(p.Den)))
		for n, x := range b.Entries {
			sum.Add(sum, new(big.Int).Mul(big.NewInt(int64(p.Weights[n])), big.NewInt(int64(x.Coefs[i]))))
		}
		if sum.Cmp(big.NewInt(int64(p.Level))) < 0 {
			return nil, false
		}
	}
	left := big.NewInt(int64(p.Level))
	for n, x := range b.Entries {
		left.Sub(left, new(big.Int).Mul(big.NewInt(int64(p.Weights[n])), big.NewInt(int64(x.Most))))
	}
	return new(big.Rat).SetFrac(left, big.NewInt(int64(p.Den))), true
}

// plainClashes tells whether a proof proves a clash: with worths of 0 it proves a bound above 0.
func plainClashes(b api.CertifyBook, p api.CertifyProof) bool {
	bound, ok := plainBound(b, make([]int, len(b.Parts)), p)
	return ok && bound.Sign() > 0
}

// plainLeast is the least sum of shares times worths, nothing if no mix is permitted.
func plainLeast(b api.CertifyBook, worths []int) *big.Rat {
	parts := len(b.Parts)
	var least *big.Rat
	for mask := range 1 << (parts + len(b.Entries)) {
		if bits.OnesCount(uint(mask)) != parts-1 {
			continue
		}
		rows := [][]*big.Rat{rowOf(func(int) int { return 1 }, parts, 1)}
		for i := range parts {
			if mask>>i&1 == 1 {
				rows = append(rows, rowOf(func(k int) int { return one(i == k) }, parts, 0))
			}
		}
		for n, x := range b.Entries {
			if mask>>(parts+n)&1 == 1 {
				rows = append(rows, rowOf(func(k int) int { return x.Coefs[k] }, parts, x.Most))
			}
		}
		shares := onlySolution(rows)
		if shares == nil || !plainPermits(b, shares) {
			continue
		}
		if value := sumOf(shares, worths); least == nil || value.Cmp(least) < 0 {
			least = value
		}
	}
	return least
}

func one(is bool) int {
	if is {
		return 1
	}
	return 0
}

// rowOf is an equation: its coefficients, and what they come to.
func rowOf(coef func(k int) int, many, sum int) []*big.Rat {
	var row []*big.Rat
	for k := range many {
		row = append(row, ratio(coef(k), 1))
	}
	return append(row, ratio(sum, 1))
}

// onlySolution takes equations from each other, and is nothing if they have no solution, or several.
func onlySolution(rows [][]*big.Rat) []*big.Rat {
	for p := range rows {
		found := -1
		for i := p; i < len(rows); i++ {
			if rows[i][p].Sign() != 0 {
				found = i
			}
		}
		if found < 0 {
			return nil
		}
		rows[p], rows[found] = rows[found], rows[p]
		for i := range rows {
			if i == p || rows[i][p].Sign() == 0 {
				continue
			}
			by := new(big.Rat).Quo(rows[i][p], rows[p][p])
			for k := range rows[i] {
				rows[i][k] = new(big.Rat).Sub(rows[i][k], new(big.Rat).Mul(by, rows[p][k]))
			}
		}
	}
	var solution []*big.Rat
	for p, row := range rows {
		solution = append(solution, new(big.Rat).Quo(row[len(rows)], row[p]))
	}
	return solution
}

// plainRange is two values, so many times, rounded down and up.
func plainRange(lo, hi *big.Rat, times int) api.Range {
	down := func(x *big.Rat) int {
		y := new(big.Rat).Mul(x, ratio(times, 1))
		return int(new(big.Int).Div(y.Num(), y.Denom()).Int64())
	}
	return from(down(lo), -down(new(big.Rat).Neg(hi)))
}

// plainFewest is the least set of entries that alone are such a book, of least size and lexicographically first: it tries all of them.
func plainFewest(b api.CertifyBook, isSuch func(b api.CertifyBook) bool) ([]int, bool) {
	var best []int
	found := false
	for mask := range 1 << len(b.Entries) {
		var l []int
		x := api.CertifyBook{Parts: b.Parts}
		for n := range b.Entries {
			if mask>>n&1 == 1 {
				l = append(l, n)
				x.Entries = append(x.Entries, b.Entries[n])
			}
		}
		if isSuch(x) && (!found || len(l) < len(best) || len(l) == len(best) && fmt.Sprint(l) < fmt.Sprint(best)) {
			best, found = l, true
		}
	}
	return best, found
}

// someBook is a random book; some of its entries are made such that a random mix keeps them just so.
func someBook(r *rand.Rand, mostParts, mostEntries int) api.CertifyBook {
	var b api.CertifyBook
	for n := range 1 + r.Intn(mostParts) {
		lo, carbon := r.Intn(401), r.Intn(21)
		b.Parts = append(b.Parts, part(fmt.Sprint("p", n), from(lo, lo+r.Intn(401-lo)), from(carbon, carbon+r.Intn(21-carbon))))
	}
	known := someMix(r, len(b.Parts))
	most := []int{1, 3, 20}[r.Intn(3)]
	for n := range r.Intn(mostEntries + 1) {
		x := entry(fmt.Sprint("e", n), r.Intn(2*most+1)-most)
		for range b.Parts {
			x.Coefs = append(x.Coefs, r.Intn(2*most+1)-most)
		}
		if sum := sumOf(sharesOf(known), x.Coefs); r.Intn(4) > 0 {
			x.Most = plainRange(sum, sum, 1).Hi
		}
		b.Entries = append(b.Entries, x)
	}
	return b
}

func someMix(r *rand.Rand, parts int) api.CertifyMix {
	m := mix(0, make([]int, parts)...)
	for m.Den == 0 {
		for i := range m.Parts {
			m.Parts[i] = r.Intn(6) * r.Intn(2)
			m.Den += m.Parts[i]
		}
	}
	return m
}

func someAsk(r *rand.Rand) api.CertifyAsk {
	return api.CertifyAsk{Kind: r.Intn(2), Age: r.Intn(401)}
}
