package choices

import (
	"fmt"
	"math/bits"
	"slices"
	"testing"
)

func TestOf(t *testing.T) {
	for _, x := range []struct {
		l    []string
		size int
		want string
	}{
		{nil, 0, "[[]]"},
		{nil, 1, "[]"},
		{[]string{"a", "b"}, 0, "[[]]"},
		{[]string{"a", "b"}, 1, "[[a] [b]]"},
		{[]string{"a", "b"}, 2, "[[a b]]"},
		{[]string{"a", "b"}, 3, "[]"},
		{[]string{"d", "c", "b", "a"}, 2, "[[d c] [d b] [d a] [c b] [c a] [b a]]"},
		{[]string{"a", "b", "c", "d"}, 3, "[[a b c] [a b d] [a c d] [b c d]]"},
	} {
		if got := fmt.Sprint(slices.Collect(Of(x.l, x.size))); got != x.want {
			t.Errorf("%d of %v: %s, want %s", x.size, x.l, got, x.want)
		}
	}
}

func TestOfMany(t *testing.T) {
	l := []int{0, 1, 2, 3, 4, 5, 6, 7, 8, 9}
	for size := range len(l) + 1 {
		many := 0
		for mask := range uint(1) << len(l) {
			if bits.OnesCount(mask) == size {
				many++
			}
		}
		got := slices.Collect(Of(l, size))
		if len(got) != many || !slices.IsSortedFunc(got, slices.Compare[[]int]) {
			t.Errorf("%d: %v", size, got)
		}
		for _, choice := range got {
			if len(choice) != size || len(slices.Compact(slices.Sorted(slices.Values(choice)))) != size {
				t.Errorf("%d: %v", size, choice)
			}
		}
	}
}

// TestLeft: a loop may be left, and a choice may be kept, and written to.
func TestLeft(t *testing.T) {
	l := []int{1, 2, 3, 4}
	many := 0
	var kept [][]int
	for choice := range Of(l, 2) {
		choice[0] += 10
		kept = append(kept, append(choice, 7)[:2])
		if many++; many == 4 {
			break
		}
	}
	if got := fmt.Sprint(kept, l); got != "[[11 2] [11 3] [11 4] [12 3]] [1 2 3 4]" {
		t.Error(got)
	}
}
