// Package exact has whole numbers from 0 on that may be as large as they come. Amounts of wine are exact: what is worked out on the way to a small result may outgrow an int by far.
package exact

import (
	"math"
	"math/bits"
	"slices"
)

// A Nat is a whole number from 0 on; the zero value is 0. Its digits are never written again once it is made, so copies may share them.
type Nat struct {
	digits []uint64 // the least one first, the last one not 0
}

// Of returns the number n; a negative n counts as 0.
func Of(n int) Nat {
	if n <= 0 {
		return Nat{}
	}
	return Nat{digits: []uint64{uint64(n)}}
}

// IsZero tells whether the number is 0.
func (a Nat) IsZero() bool { return len(a.digits) == 0 }

// IsOne tells whether the number is 1.
func (a Nat) IsOne() bool { return len(a.digits) == 1 && a.digits[0] == 1 }

// Int returns the number, and whether it is small enough to be an int (otherwise 0 and false).
func (a Nat) Int() (int, bool) {
	switch {
	case a.IsZero():
		return 0, true
	case len(a.digits) > 1 || a.digits[0] > math.MaxInt:
		return 0, false
	}
	return int(a.digits[0]), true
}

// Compare returns -1, 0 or 1: whether a is less than b, equal, or greater.
func (a Nat) Compare(b Nat) int {
	if len(a.digits) != len(b.digits) {
		if len(a.digits) < len(b.digits) {
			return -1
		}
		return 1
	}
	for i := len(a.digits) - 1; i >= 0; i-- {
		if a.digits[i] != b.digits[i] {
			if a.digits[i] < b.digits[i] {
				return -1
			}
			return 1
		}
	}
	return 0
}

// Plus returns the sum.
func (a Nat) Plus(b Nat) Nat {
	if len(a.digits) < len(b.digits) {
		a, b = b, a
	}
	sum := make([]uint64, len(a.digits)+1)
	copy(sum, a.digits)
	addInto(sum, b.digits)
	return trimmed(sum)
}

// Minus returns the difference; a lesser number less a greater one counts as 0.
func (a Nat) Minus(b Nat) Nat {
	if a.Compare(b) <= 0 {
		return Nat{}
	}
	rest := slices.Clone(a.digits)
	below := uint64(0)
	for i := range rest {
		other := uint64(0)
		if i < len(b.digits) {
			other = b.digits[i]
		}
		rest[i], below = bits.Sub64(rest[i], other, below)
	}
	return trimmed(rest)
}

// Times returns the product.
func (a Nat) Times(b Nat) Nat {
	product := make([]uint64, len(a.digits)+len(b.digits))
	for i, digit := range a.digits {
		carry := uint64(0)
		for k, other := range b.digits {
			high, low := bits.Mul64(digit, other)
			low, over := bits.Add64(low, carry, 0)
			high += over
			product[i+k], over = bits.Add64(product[i+k], low, 0)
			carry = high + over
		}
		product[i+len(b.digits)] = carry
	}
	return trimmed(product)
}

// Over returns the quotient, rounded down, and the rest. Over 0 the quotient is 0 and the rest is a.
func (a Nat) Over(b Nat) (quotient, rest Nat) {
	switch {
	case b.IsZero() || a.Compare(b) < 0:
		return Nat{}, a
	case len(b.digits) == 1:
		return overDigit(a.digits, b.digits[0])
	}
	return overDigits(a.digits, b.digits)
}

// Gcd returns the greatest number that divides both; of 0 and another number the other one.
func Gcd(a, b Nat) Nat {
	for !b.IsZero() {
		_, rest := a.Over(b)
		a, b = b, rest
	}
	return a
}

// trimmed makes a number of digits that nobody else holds.
func trimmed(digits []uint64) Nat {
	n := len(digits)
	for n > 0 && digits[n-1] == 0 {
		n--
	}
	return Nat{digits: digits[:n]}
}

// addInto adds b to the digits in sum, of which there are at least as many, and returns what is carried out of them.
func addInto(sum, b []uint64) uint64 {
	carry := uint64(0)
	for i := range sum {
		if i >= len(b) && carry == 0 {
			return 0
		}
		other := uint64(0)
		if i < len(b) {
			other = b[i]
		}
		sum[i], carry = bits.Add64(sum[i], other, carry)
	}
	return carry
}

// takeTimes takes b, so many times, from the digits in rest, of which there is one more, and returns whether they went below 0.
func takeTimes(rest, b []uint64, times uint64) bool {
	carry := uint64(0)
	for i, digit := range b {
		high, low := bits.Mul64(digit, times)
		low, over := bits.Add64(low, carry, 0)
		high += over
		rest[i], over = bits.Sub64(rest[i], low, 0)
		carry = high + over
	}
	below := uint64(0)
	rest[len(b)], below = bits.Sub64(rest[len(b)], carry, 0)
	return below == 1
}

func overDigit(a []uint64, by uint64) (quotient, rest Nat) {
	digits := make([]uint64, len(a))
	left := uint64(0)
	for i := len(a) - 1; i >= 0; i-- {
		digits[i], left = bits.Div64(left, a[i], by)
	}
	return trimmed(digits), trimmed([]uint64{left})
}

// overDigits divides by two digits or more. The highest bit of the divisor is shifted to the top, so that a digit of the quotient that is guessed by the first digits alone is at most two too large.
func overDigits(a, b []uint64) (quotient, rest Nat) {
	shift := uint(bits.LeadingZeros64(b[len(b)-1]))
	left := shiftedUp(a, shift)
	by := shiftedUp(b, shift)[:len(b)]
	top := by[len(by)-1]
	digits := make([]uint64, len(a)-len(b)+1)
	for i := len(digits) - 1; i >= 0; i-- {
		window := left[i : i+len(by)+1]
		guess := uint64(math.MaxUint64)
		if first := window[len(by)]; first < top {
			guess, _ = bits.Div64(first, window[len(by)-1], top)
		}
		for below := takeTimes(window, by, guess); below; below = addInto(window, by) == 0 {
			guess--
		}
		digits[i] = guess
	}
	return trimmed(digits), trimmed(shiftedDown(left, shift))
}

// shiftedUp has one digit more than a.
func shiftedUp(a []uint64, shift uint) []uint64 {
	out := make([]uint64, len(a)+1)
	for i, digit := range a {
		out[i] |= digit << shift
		out[i+1] = digit >> (64 - shift)
	}
	return out
}

func shiftedDown(a []uint64, shift uint) []uint64 {
	out := slices.Clone(a)
	for i := range out {
		out[i] >>= shift
		if i+1 < len(a) {
			out[i] |= a[i+1] << (64 - shift)
		}
	}
	return out
}
