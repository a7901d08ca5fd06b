package scale

import (
	"criadera/api"
	"criadera/exact"
)

// A loose wine is exact, and bound by no limit: what is worked out on the way to a wine need not be small. It need not be in lowest terms.
type loose struct {
	den   exact.Nat
	parts []loosePart // ascending by their sources, no amount is 0
}

type loosePart struct {
	source int
	amount exact.Nat
}

func loosened(w api.ScaleWine) loose {
	return loose{den: exact.Of(w.Den), parts: eachOf(w.Parts, func(p api.ScalePart) loosePart {
		return loosePart{source: p.Source, amount: exact.Of(p.Amount)}
	})}
}

// mixed is the mixture of two wines, by their least common denominator.
func (w loose) mixed(with loose) loose {
	common := exact.Gcd(w.den, with.den)
	times, _ := with.den.Over(common)
	timesWith, _ := w.den.Over(common)
	return loose{den: w.den.Times(times), parts: together(w.times(times).parts, with.times(timesWith).parts)}
}

// part has of each source the share of / whole.
func (w loose) part(of, whole int) loose {
	if of == 0 {
		return loosened(noWine())
	}
	out := w.times(exact.Of(of))
	out.den = w.den.Times(exact.Of(whole))
	return out
}

// times has all amounts so many times.
func (w loose) times(n exact.Nat) loose {
	return loose{den: w.den, parts: eachOf(w.parts, func(p loosePart) loosePart {
		return loosePart{source: p.source, amount: p.amount.Times(n)}
	})}
}

// tightened is the wine in lowest terms, unless it is too large.
func (w loose) tightened() (api.ScaleWine, api.Errno) {
	divisor := w.divisor()
	var ok bool
	out := api.ScaleWine{}
	if out.Den, ok = overBy(w.den, divisor); !ok {
		return api.ScaleWine{}, api.ErrLarge
	}
	out.Parts, ok = allOf(w.parts, func(p loosePart) (api.ScalePart, bool) {
		amount, ok := overBy(p.amount, divisor)
		return api.ScalePart{Source: p.source, Amount: amount}, ok
	})
	if !ok || CheckWine(out) != api.OK {
		return api.ScaleWine{}, api.ErrLarge
	}
	return out, api.OK
}

// divisor is the greatest number that divides the denominator and all amounts.
func (w loose) divisor() exact.Nat {
	d := w.den
	for _, p := range w.parts {
		if d.IsOne() {
			return d
		}
		d = exact.Gcd(d, p.amount)
	}
	return d
}

// overBy divides by a divisor, and tells whether the quotient is an int.
func overBy(n, divisor exact.Nat) (int, bool) {
	quotient, _ := n.Over(divisor)
	return quotient.Int()
}

// together adds the parts of two wines of one denominator.
func together(a, b []loosePart) []loosePart {
	out := make([]loosePart, 0, len(a)+len(b))
	for len(a) > 0 && len(b) > 0 {
		switch {
		case a[0].source < b[0].source:
			out = append(out, a[0])
			a = a[1:]
		case a[0].source > b[0].source:
			out = append(out, b[0])
			b = b[1:]
		default:
			out = append(out, loosePart{source: a[0].source, amount: a[0].amount.Plus(b[0].amount)})
			a, b = a[1:], b[1:]
		}
	}
	out = append(out, a...)
	return append(out, b...)
}

// mixture is the mixture of all wines of a list.
func mixture(l []api.ScaleWine) loose {
	all := loosened(noWine())
	for _, w := range l {
		all = all.mixed(loosened(w))
	}
	return all
}
