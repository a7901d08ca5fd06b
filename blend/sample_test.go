package blend

import (
	"fmt"
	"testing"

	"criadera/api"
)

// TestCheckSample: P8.1.
func TestCheckSample(t *testing.T) {
	for _, s := range []api.BlendSample{
		sugar(50, 60), sample(1), sample(10000), sample(1, just(0), just(1000), from(0, 1), from(999, 1000)), sample(77, just(5), just(5), just(5), just(5)),
	} {
		want(t, fmt.Sprint(s), 0, CheckSample(s), 0, api.OK)
	}
	for _, x := range wrongSamples() {
		want(t, fmt.Sprint(x.s), 0, CheckSample(x.s), 0, x.e)
	}
}

// TestSamplesFirst: the errors of samples are told behind those of casks, and ahead of all others (P8.2 to P8.5).
func TestSamplesFirst(t *testing.T) {
	for _, x := range wrongSamples() {
		what := fmt.Sprint(x.s)
		cost, e := CheckBlend(casks(), x.s, parts(0))
		refused(t, what, cost, e, x.e)
		d, e := DistanceOf(casks(), x.s, parts(0))
		refused(t, what, d, e, x.e)
		bound, e := CheckWeights(casks(), x.s, api.BlendWeights{})
		refused(t, what, bound, e, x.e)
		want(t, what, 0, CheckFailure(casks(), x.s, api.BlendWeights{}), 0, x.e)
		best, e := Best(casks(), x.s)
		refused(t, what, best, e, x.e)
		w, e := Failure(casks(), x.s)
		refused(t, what, w, e, x.e)
		p, d, e := Nearest(casks(), x.s)
		refused(t, what, p, e, x.e)
		refused(t, what, d, e, x.e)
		all, e := CheckWhole(casks(), x.s, nil)
		refused(t, what, all, e, x.e)
		l, all, e := BestWhole(casks(), x.s)
		refused(t, what, l, e, x.e)
		refused(t, what, all, e, x.e)
	}
}

// TestWidened: P8.1.
func TestWidened(t *testing.T) {
	s := sample(7, from(50, 60), just(0), just(1000), from(3, 998))
	for by, wide := range map[int]api.BlendSample{
		0:    s,
		1:    sample(7, from(49, 61), from(0, 1), from(999, 1000), from(2, 999)),
		2:    sample(7, from(48, 62), from(0, 2), from(998, 1000), from(1, 1000)),
		3:    sample(7, from(47, 63), from(0, 3), from(997, 1000), from(0, 1000)),
		50:   sample(7, from(0, 110), from(0, 50), from(950, 1000)),
		999:  sample(7, from(0, 1000), from(0, 999), from(1, 1000)),
		1000: sample(7),
	} {
		got, e := Widened(s, by)
		want(t, fmt.Sprint(by), got, e, wide, api.OK)
	}
	for _, by := range outside(0, 1000) {
		got, e := Widened(s, by)
		refused(t, fmt.Sprint(by), got, e, api.ErrRange)
		got, e = Widened(sample(1, from(1, 0)), by)
		refused(t, fmt.Sprint(by), got, e, api.ErrOrder)
	}
	for _, x := range wrongSamples() {
		got, e := Widened(x.s, 5)
		refused(t, fmt.Sprint(x.s), got, e, x.e)
	}
}
