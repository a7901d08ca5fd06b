package lowest

import (
	"slices"
	"testing"
)

func TestDivisor(t *testing.T) {
	for _, x := range []struct {
		l       []int
		divisor int
	}{
		{nil, 0}, {[]int{0}, 0}, {[]int{0, 0}, 0}, {[]int{7}, 7}, {[]int{-7}, 7}, {[]int{0, 5}, 5}, {[]int{5, 0}, 5},
		{[]int{12, 18}, 6}, {[]int{18, 12}, 6}, {[]int{-12, 18}, 6}, {[]int{12, -18}, 6}, {[]int{-12, -18}, 6},
		{[]int{12, 18, 8}, 2}, {[]int{6, 10, 15}, 1}, {[]int{0, 9, 0, 6}, 3}, {[]int{1000000000000, 998244353}, 1},
	} {
		if n := Divisor(x.l...); n != x.divisor {
			t.Errorf("%v: %d, want %d", x.l, n, x.divisor)
		}
	}
}

func TestTerms(t *testing.T) {
	for _, x := range []struct{ l, terms []int }{
		{nil, nil}, {[]int{0, 0}, []int{0, 0}}, {[]int{0, 5}, []int{0, 1}}, {[]int{-12, 18}, []int{-2, 3}},
		{[]int{6, 10, 15}, []int{6, 10, 15}}, {[]int{-4, -8, 0, 12}, []int{-1, -2, 0, 3}},
	} {
		l := slices.Clone(x.l)
		if got := Terms(l...); !slices.Equal(got, x.terms) {
			t.Errorf("%v: %v, want %v", x.l, got, x.terms)
		}
		if !slices.Equal(l, x.l) {
			t.Errorf("%v became %v", x.l, l)
		}
	}
}

func TestFraction(t *testing.T) {
	for x, want := range map[[2]int][2]int{
		{0, 1}: {0, 1}, {0, 12}: {0, 1}, {7, 1}: {7, 1}, {18, 12}: {3, 2}, {-18, 12}: {-3, 2}, {12, 18}: {2, 3}, {-5, 7}: {-5, 7}, {1000000000000, 500000000000}: {2, 1},
	} {
		if got := Fraction(x[0], x[1]); got != want {
			t.Errorf("%v: %v, want %v", x, got, want)
		}
	}
}
