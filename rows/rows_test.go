package rows

import (
	"slices"
	"testing"
)

func TestComesTo(t *testing.T) {
	for _, x := range []struct {
		row, numbers []int
		sum          int
	}{
		{nil, nil, 0}, {[]int{7}, []int{-3}, -21}, {[]int{1, 0, -2}, []int{10, 100, 3}, 4}, {[]int{0, 0}, []int{5, 6}, 0},
	} {
		if n := ComesTo(x.row, x.numbers); n != x.sum {
			t.Errorf("%v of %v: %d, want %d", x.row, x.numbers, n, x.sum)
		}
	}
}

func TestOpposites(t *testing.T) {
	l := []int{3, 0, -4}
	if got := Opposites(l); !slices.Equal(got, []int{-3, 0, 4}) || !slices.Equal(l, []int{3, 0, -4}) {
		t.Error(got, l)
	}
	if got := Opposites(nil); len(got) != 0 {
		t.Error(got)
	}
}
