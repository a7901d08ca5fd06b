package exact

import (
	"math"
	"math/big"
	"math/rand"
	"testing"
)

// bigOf is the same number as math/big has it.
func bigOf(a Nat) *big.Int {
	n := new(big.Int)
	for i := len(a.digits) - 1; i >= 0; i-- {
		n.Lsh(n, 64)
		n.Or(n, new(big.Int).SetUint64(a.digits[i]))
	}
	return n
}

func same(a Nat, b *big.Int) bool {
	return bigOf(a).Cmp(b) == 0 && (len(a.digits) == 0 || a.digits[len(a.digits)-1] != 0)
}

// someNat has up to the given number of digits, many of them at the ends of their range, where carries run on.
func someNat(r *rand.Rand, most int) Nat {
	digits := make([]uint64, r.Intn(most+1))
	for i := range digits {
		switch r.Intn(5) {
		case 0:
			digits[i] = math.MaxUint64
		case 1:
			digits[i] = 0
		case 2:
			digits[i] = 1 << 63
		case 3:
			digits[i] = uint64(r.Intn(9))
		default:
			digits[i] = r.Uint64()
		}
	}
	return trimmed(digits)
}

func TestAgainstBig(t *testing.T) {
	r := rand.New(rand.NewSource(1))
	for range 20000 {
		a, b := someNat(r, 7), someNat(r, 5)
		x, y := bigOf(a), bigOf(b)
		if s := a.Plus(b); !same(s, new(big.Int).Add(x, y)) {
			t.Fatalf("%v + %v: %v", x, y, bigOf(s))
		}
		if d, e := a.Minus(b), new(big.Int).Sub(x, y); e.Sign() >= 0 && !same(d, e) || e.Sign() < 0 && !d.IsZero() {
			t.Fatalf("%v - %v: %v", x, y, bigOf(d))
		}
		if d := a.Plus(b).Minus(b); !same(d, x) {
			t.Fatalf("%v + %v - %v: %v", x, y, y, bigOf(d))
		}
		if p := a.Times(b); !same(p, new(big.Int).Mul(x, y)) {
			t.Fatalf("%v * %v: %v", x, y, bigOf(p))
		}
		if c := a.Compare(b); c != x.Cmp(y) {
			t.Fatalf("%v compared with %v: %d", x, y, c)
		}
		if g := Gcd(a, b); !same(g, new(big.Int).GCD(nil, nil, x, y)) {
			t.Fatalf("the greatest divisor of %v and %v: %v", x, y, bigOf(g))
		}
		if !same(a, x) || !same(b, y) {
			t.Fatalf("%v or %v was changed", x, y)
		}
	}
}

func TestOver(t *testing.T) {
	r := rand.New(rand.NewSource(2))
	for range 50000 {
		b, q := someNat(r, 5), someNat(r, 5)
		if b.IsZero() {
			continue
		}
		_, c := someNat(r, 5).Over(b)
		a := b.Times(q).Plus(c)
		quotient, rest := a.Over(b)
		if !same(quotient, bigOf(q)) || !same(rest, bigOf(c)) {
			t.Fatalf("%v over %v: %v and %v", bigOf(a), bigOf(b), bigOf(quotient), bigOf(rest))
		}
		x, y := new(big.Int).QuoRem(bigOf(a), bigOf(b), new(big.Int))
		if !same(quotient, x) || !same(rest, y) {
			t.Fatalf("%v over %v: %v and %v, want %v and %v", bigOf(a), bigOf(b), bigOf(quotient), bigOf(rest), x, y)
		}
	}
	quotient, rest := Of(7).Over(Nat{})
	if !quotient.IsZero() || rest.Compare(Of(7)) != 0 {
		t.Errorf("over 0: %v, %v", quotient, rest)
	}
}

func TestInts(t *testing.T) {
	for _, n := range []int{0, 1, 2, 1000000000000, math.MaxInt} {
		got, ok := Of(n).Int()
		if got != n || !ok || Of(n).IsZero() != (n == 0) || Of(n).IsOne() != (n == 1) {
			t.Errorf("%d: %d, %v", n, got, ok)
		}
	}
	for _, a := range []Nat{Of(math.MaxInt).Plus(Of(1)), Of(math.MaxInt).Times(Of(math.MaxInt))} {
		if n, ok := a.Int(); n != 0 || ok {
			t.Errorf("too large: %d, %v", n, ok)
		}
	}
	if n, ok := Of(-5).Int(); n != 0 || !ok {
		t.Errorf("of a negative number: %d, %v", n, ok)
	}
}
