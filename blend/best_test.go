package blend

import (
	"testing"

	"criadera/api"
)

// found looks at a blend of least cost: it meets the sample, and its weights prove its cost.
func found(t *testing.T, what string, l []api.BlendCask, s api.BlendSample, b api.BlendBest) {
	t.Helper()
	cost, e := CheckBlend(l, s, b.Parts)
	want(t, what+", its blend", cost, e, b.Cost, api.OK)
	bound, e := CheckWeights(l, s, b.Weights)
	want(t, what+", its weights", bound, e, b.Cost, api.OK)
}

// TestBest: P8.3.
func TestBest(t *testing.T) {
	free := changed(func(l []api.BlendCask) { l[0].Cost, l[1].Cost, l[2].Cost = 0, 0, 0 })
	for _, x := range []struct {
		what string
		l    []api.BlendCask
		s    api.BlendSample
		cost [2]int
	}{
		{"the chapter's first example", casks(), sugar(50, 60), [2]int{1250, 1}},
		{"the chapter's second example", casks(), sugar(150, 160), [2]int{2500, 1}},
		{"nothing but a volume", casks(), sample(100), [2]int{1000, 1}},
		{"all wine of the cheapest cask", casks(), sample(120), [2]int{1400, 1}},
		{"all wine", casks(), sample(250), [2]int{5000, 1}},
		{"a cost that is not whole", []api.BlendCask{cask("a", 9, 0), cask("b", 9, 7, 3)}, sample(1, from(1, 3)), [2]int{7, 3}},
		{"costs of 0", free, sugar(50, 60), [2]int{0, 1}},
		{"one cask", []api.BlendCask{cask("a", 7, 5, 1, 2, 3, 4)}, sample(7, just(1), from(0, 2), from(3, 9), just(4)), [2]int{35, 1}},
		{"a cask of the volume 0 that would be cheaper", append(casks(), cask("none", 0, 1, 50)), sugar(50, 60), [2]int{1250, 1}},
		{"too sweet wine that is cheaper", []api.BlendCask{cask("a", 100, 1, 100), cask("b", 100, 9)}, sugar(0, 25), [2]int{700, 1}},
		{"each kind asks for a cask", []api.BlendCask{cask("a", 10, 1, 4), cask("b", 10, 2, 0, 4), cask("c", 10, 3, 0, 0, 4), cask("d", 10, 4, 0, 0, 0, 4)}, sample(8, just(1), just(1), just(1), just(1)), [2]int{20, 1}},
		{"the greatest numbers", large(1000), sample(10000, just(1000), just(1000), just(1000), just(1000)), [2]int{10000000, 1}},
		{"the smallest sample of the greatest numbers", large(1000), sample(1, just(1000), just(1000), just(1000), just(1000)), [2]int{1000, 1}},
	} {
		b, e := Best(x.l, x.s)
		want(t, x.what, b.Cost, e, x.cost, api.OK)
		found(t, x.what, x.l, x.s, b)
		w, e := Failure(x.l, x.s)
		refused(t, x.what+", no failure", w, e, api.ErrNone)
		p, d, e := Nearest(x.l, x.s)
		want(t, x.what+", nearest", d, e, [2]int{0, 1}, api.OK)
		cost, e := CheckBlend(x.l, x.s, p)
		want(t, x.what+", nearest", cost[1] > 0, e, true, api.OK)
	}
}

// TestFailure: P8.3 and P8.4, of samples that no blend meets; the distance is nothing if there is not enough wine.
func TestFailure(t *testing.T) {
	for _, x := range []struct {
		what string
		l    []api.BlendCask
		s    api.BlendSample
		d    [2]int
	}{
		{"the chapter's third example", casks(), sugar(180, 200), [2]int{30, 1}},
		{"one more than there is", casks(), sample(251), [2]int{}},
		{"one more than there is, and of the wrong kind", casks(), sample(251, from(300, 400)), [2]int{}},
		{"no wine at all", []api.BlendCask{cask("a", 0, 0), cask("b", 0, 0)}, sample(1), [2]int{}},
		{"just less than there is", casks(), sample(250, from(81, 90)), [2]int{1, 1}},
		{"too sweet", []api.BlendCask{cask("a", 9, 0, 100)}, sample(9, just(60)), [2]int{40, 1}},
		{"too sweet, by a part of one", casks(), sample(249, just(79)), [2]int{43, 83}},
		{"one kind against another one", []api.BlendCask{cask("a", 9, 0, 10, 0), cask("b", 9, 0, 0, 10)}, sample(9, from(8, 9), from(8, 9)), [2]int{3, 1}},
		{"three kinds against each other", []api.BlendCask{cask("a", 9, 0, 9), cask("b", 9, 0, 0, 9), cask("c", 9, 0, 0, 0, 9)}, sample(9, from(5, 9), from(5, 9), from(5, 9)), [2]int{2, 1}},
		{"the greatest distance", large(1000), sample(10000, anyValue(), just(0)), [2]int{1000, 1}},
		{"a cask of the volume 0 that would do", append(casks(), cask("none", 0, 1, 180)), sugar(180, 200), [2]int{30, 1}},
	} {
		b, e := Best(x.l, x.s)
		refused(t, x.what, b, e, api.ErrNone)
		w, e := Failure(x.l, x.s)
		want(t, x.what, CheckFailure(x.l, x.s, w), e, api.OK, api.OK)
		p, d, e := Nearest(x.l, x.s)
		if x.d == [2]int{} {
			refused(t, x.what, p, e, api.ErrBreak)
			refused(t, x.what, d, e, api.ErrBreak)
			continue
		}
		want(t, x.what, d, e, x.d, api.OK)
		d, e = DistanceOf(x.l, x.s, p)
		want(t, x.what+", its blend", d, e, x.d, api.OK)
	}
}
