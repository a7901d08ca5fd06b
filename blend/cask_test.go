package blend

import (
	"testing"

	"criadera/api"
)

// TestCheckCasks: P8.1.
func TestCheckCasks(t *testing.T) {
	for what, l := range map[string][]api.BlendCask{
		"the examples'":      casks(),
		"one":                {cask("abcdefghijkl", 0, 0)},
		"the greatest ones":  {cask("a", 10000, 1000, 1000, 1000, 1000, 1000), cask("A", 10000, 1000)},
		"five":               many(5),
		"as many as may be":  many(10),
		"names like letters": {cask("a", 1, 1), cask("a-", 1, 1), cask("a1", 1, 1), cask("a-1", 1, 1)},
	} {
		n, e := CheckCasks(l)
		want(t, what, n, e, 0, api.OK)
	}
	for _, x := range wrongCasks() {
		n, e := CheckCasks(x.l)
		want(t, x.what, n, e, x.n, x.e)
	}
}

// TestCasksFirst: the errors of casks are told ahead of all others (P8.1 to P8.5), and those of more than four casks behind them.
func TestCasksFirst(t *testing.T) {
	allRefuse(t, api.ErrLarge, map[string]asking{
		"CheckParts": func(l []api.BlendCask) (bool, api.Errno) { return true, CheckParts(l, parts(0)) },
		"MeanOf":     func(l []api.BlendCask) (bool, api.Errno) { return nothing(MeanOf(l, parts(0))) },
		"CostOf":     func(l []api.BlendCask) (bool, api.Errno) { return nothing(CostOf(l, parts(0))) },
		"CheckBlend": func(l []api.BlendCask) (bool, api.Errno) { return nothing(CheckBlend(l, sample(0), parts(0))) },
		"DistanceOf": func(l []api.BlendCask) (bool, api.Errno) { return nothing(DistanceOf(l, sample(0), parts(0))) },
		"CheckWeights": func(l []api.BlendCask) (bool, api.Errno) {
			return nothing(CheckWeights(l, sample(0), weights(0, 0, kinds(), kinds())))
		},
		"CheckFailure": func(l []api.BlendCask) (bool, api.Errno) {
			return true, CheckFailure(l, sample(0), weights(0, 0, kinds(), kinds()))
		},
		"Best":    func(l []api.BlendCask) (bool, api.Errno) { return nothing(Best(l, sample(0))) },
		"Failure": func(l []api.BlendCask) (bool, api.Errno) { return nothing(Failure(l, sample(0))) },
		"Nearest": func(l []api.BlendCask) (bool, api.Errno) { return nothings(Nearest(l, sample(0))) },
	})
	allRefuse(t, api.ErrRange, map[string]asking{
		"CheckWhole": func(l []api.BlendCask) (bool, api.Errno) { return nothing(CheckWhole(l, sample(0), nil)) },
		"BestWhole":  func(l []api.BlendCask) (bool, api.Errno) { return nothings(BestWhole(l, sample(0))) },
	})
	allRefuse(t, api.ErrEmpty, map[string]asking{
		"WholeMeans": func(l []api.BlendCask) (bool, api.Errno) { return nothing(WholeMeans(l, nil)) },
	})
}
