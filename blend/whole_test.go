package blend

import (
	"fmt"
	"testing"

	"criadera/api"
)

// TestWholeMeans: P8.5.
func TestWholeMeans(t *testing.T) {
	of := func(l ...api.Range) [api.BlendKinds]api.Range {
		var means [api.BlendKinds]api.Range
		copy(means[:], l)
		return means
	}
	ten := many(10)
	ten[9] = cask("last", 10000, 1000, 1000, 1000, 1000, 1000)
	for _, x := range []struct {
		what  string
		l     []api.BlendCask
		casks []int
		want  [api.BlendKinds]api.Range
	}{
		{"the chapter's fourth example", casks(), numbers(0, 2), of(from(66, 67))},
		{"sweet and dry", casks(), numbers(0, 1), of(just(50))},
		{"all", casks(), numbers(0, 1, 2), of(just(80))},
		{"one", casks(), numbers(1), of(just(100))},
		{"the last one of ten", ten, numbers(9), of(just(1000), just(1000), just(1000), just(1000))},
		{"ten", ten, numbers(0, 1, 2, 3, 4, 5, 6, 7, 8, 9), of(from(991, 992), from(991, 992), from(991, 992), from(991, 992))},
		{"a cask of the volume 0", append(casks(), cask("none", 0, 0, 999, 999)), numbers(0, 2, 3), of(from(66, 67))},
	} {
		got, e := WholeMeans(x.l, x.casks)
		want(t, x.what, got, e, x.want, api.OK)
	}
	for _, x := range wrongWholes() {
		got, e := WholeMeans(casks(), x.casks)
		refused(t, fmt.Sprint(x.casks), got, e, x.e)
	}
	empty := append(casks(), cask("none", 0, 0, 9), cask("no-more", 0, 0, 9))
	for _, l := range [][]int{numbers(3), numbers(4), numbers(3, 4)} {
		got, e := WholeMeans(empty, l)
		refused(t, fmt.Sprint(l), got, e, api.ErrEmpty)
	}
}

// TestCheckWhole: P8.5.
func TestCheckWhole(t *testing.T) {
	ten := many(10)
	for n := range ten {
		ten[n] = cask(ten[n].Name, 10000, 1000, 1000)
	}
	for _, x := range []struct {
		what  string
		l     []api.BlendCask
		s     api.BlendSample
		casks []int
		cost  int
		e     api.Errno
	}{
		{"the chapter's fourth example", casks(), sugar(60, 70), numbers(0, 2), 2000, api.OK},
		{"just what is wanted", casks(), sample(150, from(60, 70)), numbers(0, 2), 2000, api.OK},
		{"just less than is wanted", casks(), sample(151, from(60, 70)), numbers(0, 2), 0, api.ErrGap},
		{"sweet and dry", casks(), sugar(60, 70), numbers(0, 1), 0, api.ErrClash},
		{"too little, and of the wrong kind", casks(), sugar(60, 70), numbers(2), 0, api.ErrGap},
		{"just the least end", casks(), sugar(50, 60), numbers(0, 1), 4000, api.OK},
		{"just the greatest end", casks(), sugar(40, 50), numbers(0, 1), 4000, api.OK},
		{"above the greatest end by less than 1", casks(), sugar(60, 66), numbers(0, 2), 0, api.ErrClash},
		{"below the least end by less than 1", casks(), sugar(67, 70), numbers(0, 2), 0, api.ErrClash},
		{"all", casks(), sugar(80, 80), numbers(0, 1, 2), 5000, api.OK},
		{"a cask of the volume 0", append(casks(), cask("none", 0, 1000, 999)), sugar(60, 70), numbers(0, 2, 3), 2000, api.OK},
		{"a cask of the volume 0 alone", append(casks(), cask("none", 0, 1000, 999)), sample(1), numbers(3), 0, api.ErrGap},
		{"the greatest numbers", ten, sample(10000, just(1000)), numbers(0, 1, 2, 3, 4, 5, 6, 7, 8, 9), 100000000, api.OK},
	} {
		got, e := CheckWhole(x.l, x.s, x.casks)
		want(t, x.what, got, e, x.cost, x.e)
	}
	for _, x := range wrongWholes() {
		got, e := CheckWhole(casks(), sugar(60, 70), x.casks)
		refused(t, fmt.Sprint(x.casks), got, e, x.e)
	}
}

// TestBestWhole: P8.5.
func TestBestWhole(t *testing.T) {
	even := []api.BlendCask{cask("a", 10, 5), cask("b", 20, 2), cask("c", 10, 4), cask("d", 10, 4), cask("e", 10, 4)}
	free := []api.BlendCask{cask("a", 10, 0), cask("b", 10, 0), cask("c", 20, 0), cask("d", 20, 0)}
	for _, x := range []struct {
		what  string
		l     []api.BlendCask
		s     api.BlendSample
		casks []int
		cost  int
	}{
		{"the chapter's fourth example", casks(), sugar(60, 70), numbers(0, 2), 2000},
		{"one that costs less", casks(), sample(100), numbers(0), 1000},
		{"two that cost less than one", []api.BlendCask{cask("a", 20, 9), cask("b", 10, 2), cask("c", 10, 3)}, sample(20), numbers(1, 2), 50},
		{"the first one of three", even, sample(10), numbers(1), 40},
		{"the first one of two", even[2:], sample(10), numbers(0), 40},
		{"fewer casks at the same cost", []api.BlendCask{cask("a", 10, 2), cask("b", 10, 2), cask("c", 20, 2)}, sample(20), numbers(2), 40},
		{"lexicographically first of as many", even, sample(30), numbers(1, 2), 80},
		{"without costs", free, sample(20), numbers(2), 0},
		{"without costs, with two casks", free, sample(30), numbers(0, 2), 0},
		{"no cask of the volume 0", append([]api.BlendCask{cask("none", 0, 0)}, free...), sample(20), numbers(3), 0},
		{"all of ten", many(10), sample(100), numbers(0, 1, 2, 3, 4, 5, 6, 7, 8, 9), 450},
		{"the cheapest of ten", many(10), sample(61), numbers(0, 1, 2, 3, 4, 5, 6), 210},
	} {
		got, cost, e := BestWhole(x.l, x.s)
		want(t, x.what, got, e, x.casks, api.OK)
		want(t, x.what, cost, 0, x.cost, 0)
	}
	for what, s := range map[string]api.BlendSample{
		"too much":      sample(251),
		"no such sugar": sugar(201, 300),
		"only in parts": sugar(10, 20),
	} {
		got, cost, e := BestWhole(casks(), s)
		refused(t, what, got, e, api.ErrNone)
		refused(t, what, cost, e, api.ErrNone)
	}
}
