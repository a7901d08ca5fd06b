package blend

import (
	"fmt"
	"slices"
	"testing"

	"criadera/api"
)

// greatest is four casks of which each number is as great as may be, and all of their wine in the smallest parts.
func greatest() ([]api.BlendCask, api.BlendParts) {
	var l []api.BlendCask
	for n := range 4 {
		l = append(l, cask(fmt.Sprint("c", n), 10000, 1000, 1000, 1000, 1000, 1000))
	}
	return l, parts(200000000000, slices.Repeat(numbers(2000000000000000), 4)...)
}

// TestCheckParts: P8.1.
func TestCheckParts(t *testing.T) {
	for _, p := range []api.BlendParts{
		parts(1, 50, 50, 0), parts(1, 0, 0, 0), parts(1, 100, 100, 50), parts(3, 300, 1, 150), parts(200000000000, 0, 0, 10000000000000),
	} {
		want(t, fmt.Sprint(p), 0, CheckParts(casks(), p), 0, api.OK)
	}
	l, p := greatest()
	want(t, "the greatest ones", 0, CheckParts(l, p), 0, api.OK)
	want(t, "a cask of the volume 0", 0, CheckParts([]api.BlendCask{cask("a", 0, 0)}, parts(9, 0)), 0, api.OK)
	want(t, "more than nothing", 0, CheckParts([]api.BlendCask{cask("a", 0, 0)}, parts(9, 1)), 0, api.ErrBreak)
	for _, x := range wrongParts() {
		want(t, fmt.Sprint(x.p), 0, CheckParts(casks(), x.p), 0, x.e)
	}
}

// TestPartsFirst: the errors of parts (P8.2), behind those of samples.
func TestPartsFirst(t *testing.T) {
	for _, x := range wrongParts() {
		what := fmt.Sprint(x.p)
		means, e := MeanOf(casks(), x.p)
		refused(t, what, means, e, x.e)
		cost, e := CostOf(casks(), x.p)
		refused(t, what, cost, e, x.e)
		cost, e = CheckBlend(casks(), sugar(0, 0), x.p)
		refused(t, what, cost, e, x.e)
		d, e := DistanceOf(casks(), sugar(0, 0), x.p)
		refused(t, what, d, e, x.e)
	}
}

// TestMeanOf: P8.2.
func TestMeanOf(t *testing.T) {
	of := func(l ...[2]int) [api.BlendKinds][2]int {
		means := [api.BlendKinds][2]int{{0, 1}, {0, 1}, {0, 1}, {0, 1}}
		copy(means[:], l)
		return means
	}
	four := []api.BlendCask{cask("a", 10, 0, 1, 2, 3, 4), cask("b", 10, 0, 1000, 999, 998, 997)}
	largest, all := greatest()
	for _, x := range []struct {
		what string
		l    []api.BlendCask
		p    api.BlendParts
		want [api.BlendKinds][2]int
	}{
		{"the chapter's half and half", casks(), parts(1, 50, 50, 0), of([2]int{50, 1})},
		{"the chapter's three quarters", casks(), parts(1, 75, 0, 25), of([2]int{50, 1})},
		{"of one cask", casks(), parts(7, 0, 0, 1), of([2]int{200, 1})},
		{"of dry wine", casks(), parts(7, 3, 0, 0), of()},
		{"not whole", casks(), parts(1, 100, 0, 50), of([2]int{200, 3})},
		{"whatever it is divided by", casks(), parts(6, 100, 0, 50), of([2]int{200, 3})},
		{"all kinds", four, parts(1, 1, 2), of([2]int{667, 1}, [2]int{2000, 3}, [2]int{1999, 3}, [2]int{666, 1})},
		{"the greatest numbers", largest, all, of([2]int{1000, 1}, [2]int{1000, 1}, [2]int{1000, 1}, [2]int{1000, 1})},
	} {
		got, e := MeanOf(x.l, x.p)
		want(t, x.what, got, e, x.want, api.OK)
	}
	got, e := MeanOf(casks(), parts(1, 0, 0, 0))
	refused(t, "no wine", got, e, api.ErrEmpty)
}

// TestCostOf: P8.2.
func TestCostOf(t *testing.T) {
	largest, all := greatest()
	for _, x := range []struct {
		what string
		l    []api.BlendCask
		p    api.BlendParts
		want [2]int
	}{
		{"the chapter's half and half", casks(), parts(1, 50, 50, 0), [2]int{2000, 1}},
		{"the chapter's three quarters", casks(), parts(1, 75, 0, 25), [2]int{1250, 1}},
		{"not whole", casks(), parts(7, 1, 1, 1), [2]int{60, 7}},
		{"in lowest terms", casks(), parts(12, 1, 1, 1), [2]int{5, 1}},
		{"wine that costs nothing", []api.BlendCask{cask("a", 5, 0)}, parts(12, 7), [2]int{0, 1}},
		{"the greatest numbers", largest, all, [2]int{40000000, 1}},
		{"the smallest part", largest, parts(200000000000, 0, 0, 1, 0), [2]int{1, 200000000}},
	} {
		got, e := CostOf(x.l, x.p)
		want(t, x.what, got, e, x.want, api.OK)
	}
	got, e := CostOf(casks(), parts(1, 0, 0, 0))
	refused(t, "no wine", got, e, api.ErrEmpty)
}

// TestCheckBlend: P8.2.
func TestCheckBlend(t *testing.T) {
	largest, all := greatest()
	quarter := parts(all.Den, all.Parts[0]/4, all.Parts[1]/4, all.Parts[2]/4, all.Parts[3]/4)
	four := []api.BlendCask{cask("a", 10, 1, 1, 2, 3, 4), cask("b", 10, 2, 3, 5, 7, 9)}
	for _, x := range []struct {
		what string
		l    []api.BlendCask
		s    api.BlendSample
		p    api.BlendParts
		cost [2]int
		e    api.Errno
	}{
		{"the chapter's half and half", casks(), sugar(50, 60), parts(1, 50, 50, 0), [2]int{2000, 1}, api.OK},
		{"the chapter's three quarters", casks(), sugar(50, 60), parts(1, 75, 0, 25), [2]int{1250, 1}, api.OK},
		{"the chapter's second example", casks(), sugar(150, 160), parts(1, 0, 50, 50), [2]int{2500, 1}, api.OK},
		{"just the greatest mean", casks(), sugar(40, 50), parts(1, 50, 50, 0), [2]int{2000, 1}, api.OK},
		{"a mean that is too great", casks(), sugar(40, 49), parts(1, 50, 50, 0), [2]int{}, api.ErrClash},
		{"a mean that is too small", casks(), sugar(51, 60), parts(1, 50, 50, 0), [2]int{}, api.ErrClash},
		{"too great by the smallest part", casks(), sugar(40, 50), parts(1000000, 49999999, 50000001, 0), [2]int{}, api.ErrClash},
		{"too small by the smallest part", casks(), sugar(50, 60), parts(1000000, 50000001, 49999999, 0), [2]int{}, api.ErrClash},
		{"a cost that is not whole", casks(), sugar(0, 100), parts(3, 100, 198, 2), [2]int{6980, 3}, api.OK},
		{"too little", casks(), sugar(0, 1000), parts(1, 50, 49, 0), [2]int{}, api.ErrGap},
		{"too much", casks(), sugar(0, 1000), parts(1, 50, 51, 0), [2]int{}, api.ErrGap},
		{"nothing", casks(), sugar(0, 1000), parts(1, 0, 0, 0), [2]int{}, api.ErrGap},
		{"too little, and with a wrong mean", casks(), sugar(51, 60), parts(1, 49, 49, 0), [2]int{}, api.ErrGap},
		{"all kinds", four, sample(2, just(2), from(3, 4), just(5), from(6, 7)), parts(1, 1, 1), [2]int{3, 1}, api.OK},
		{"too much of the second kind", four, sample(2, just(2), just(3)), parts(1, 1, 1), [2]int{}, api.ErrClash},
		{"too little of the last kind", four, sample(2, just(2), from(3, 4), just(5), just(7)), parts(1, 1, 1), [2]int{}, api.ErrClash},
		{"the greatest numbers", largest, sample(10000, just(1000), just(1000), just(1000), just(1000)), quarter, [2]int{10000000, 1}, api.OK},
		{"the greatest numbers, none of them wanted", largest, sample(10000, anyValue(), just(0)), quarter, [2]int{}, api.ErrClash},
	} {
		got, e := CheckBlend(x.l, x.s, x.p)
		want(t, x.what, got, e, x.cost, x.e)
	}
}

// TestDistanceOf: P8.2.
func TestDistanceOf(t *testing.T) {
	largest, all := greatest()
	quarter := parts(all.Den, all.Parts[0]/4, all.Parts[1]/4, all.Parts[2]/4, all.Parts[3]/4)
	four := []api.BlendCask{cask("a", 10, 1, 1, 2, 3, 4), cask("b", 10, 2, 3, 5, 7, 9)}
	for _, x := range []struct {
		what string
		l    []api.BlendCask
		s    api.BlendSample
		p    api.BlendParts
		want [2]int
		e    api.Errno
	}{
		{"one that meets it", casks(), sugar(50, 60), parts(1, 50, 50, 0), [2]int{0, 1}, api.OK},
		{"one at the other end", casks(), sugar(40, 50), parts(1, 50, 50, 0), [2]int{0, 1}, api.OK},
		{"above", casks(), sugar(10, 20), parts(1, 50, 50, 0), [2]int{30, 1}, api.OK},
		{"below", casks(), sugar(180, 200), parts(1, 0, 50, 50), [2]int{30, 1}, api.OK},
		{"not whole", casks(), sugar(50, 60), parts(3, 100, 200, 0), [2]int{20, 3}, api.OK},
		{"the furthest kind is above", four, sample(2, just(1), just(3), just(3), just(6)), parts(1, 1, 1), [2]int{2, 1}, api.OK},
		{"the furthest kind is below", four, sample(2, just(3), just(5), just(4), just(9)), parts(1, 1, 1), [2]int{5, 2}, api.OK},
		{"the greatest distance", largest, sample(10000, just(0)), quarter, [2]int{1000, 1}, api.OK},
		{"too little", casks(), sugar(0, 10), parts(1, 50, 49, 0), [2]int{}, api.ErrGap},
		{"too much", casks(), sugar(0, 10), parts(1, 50, 51, 0), [2]int{}, api.ErrGap},
		{"nothing", casks(), sugar(0, 10), parts(1, 0, 0, 0), [2]int{}, api.ErrGap},
	} {
		got, e := DistanceOf(x.l, x.s, x.p)
		want(t, x.what, got, e, x.want, x.e)
	}
	small := []api.BlendCask{cask("a", 10000, 1000, 1000), cask("b", 10000, 1000)}
	got, e := DistanceOf(small, sample(1, just(1000)), parts(200000000000, 199999999999, 1))
	want(t, "below by the smallest part", got, e, [2]int{1, 200000000}, api.OK)
}
