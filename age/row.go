package age

import "criadera/exact"

// A row is amounts side by side, all over one denominator that is kept elsewhere.
type row []exact.Nat

// rowOf is a row of numbers from 0 on.
func rowOf(l []int) row {
	out := make(row, 0, len(l))
	for _, n := range l {
		out = append(out, exact.Of(n))
	}
	return out
}

func (r row) times(n exact.Nat) row {
	out := make(row, 0, len(r))
	for _, x := range r {
		out = append(out, x.Times(n))
	}
	return out
}

// over divides by a divisor of all amounts.
func (r row) over(divisor exact.Nat) row {
	out := make(row, 0, len(r))
	for _, x := range r {
		quotient, _ := x.Over(divisor)
		out = append(out, quotient)
	}
	return out
}

// plus adds a row of the same length.
func (r row) plus(with row) row {
	out := make(row, 0, len(r))
	for i, x := range r {
		out = append(out, x.Plus(with[i]))
	}
	return out
}

func (r row) sum() exact.Nat {
	var sum exact.Nat
	for _, x := range r {
		sum = sum.Plus(x)
	}
	return sum
}

// against is the sum of all amounts, each one so many times.
func (r row) against(times []int) exact.Nat {
	var sum exact.Nat
	for i, x := range r {
		if times[i] != 0 {
			sum = sum.Plus(x.Times(exact.Of(times[i])))
		}
	}
	return sum
}

// divisor is the greatest number that divides den and all amounts.
func (r row) divisor(den exact.Nat) exact.Nat {
	for _, x := range r {
		if den.IsOne() {
			return den
		}
		den = exact.Gcd(den, x)
	}
	return den
}

// ints is the amounts as ints, which they must be.
func (r row) ints() []int {
	out := make([]int, 0, len(r))
	for _, x := range r {
		n, _ := x.Int()
		out = append(out, n)
	}
	return out
}
