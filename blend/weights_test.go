package blend

import (
	"fmt"
	"testing"

	"criadera/api"
)

const (
	mostDen    = 200000000000
	mostWeight = 100000000000000
)

// first is the weights of the chapter's first example with a change.
func first(change func(w *api.BlendWeights)) api.BlendWeights {
	w := cheap()
	change(&w)
	return w
}

// large is four casks of the greatest volume with such a value of all kinds.
func large(value int) []api.BlendCask {
	var l []api.BlendCask
	for n := range 4 {
		l = append(l, cask(fmt.Sprint("c", n), 10000, 1000, value, value, value, value))
	}
	return l
}

// four is a weight of all kinds.
func four(n int) [api.BlendKinds]int { return kinds(n, n, n, n) }

// TestCheckWeights: P8.3.
func TestCheckWeights(t *testing.T) {
	all := sample(10000, just(0), just(0), just(0), just(0))
	dear := sample(10000, just(1000), just(1000), just(1000), just(1000))
	for _, x := range []struct {
		what  string
		l     []api.BlendCask
		s     api.BlendSample
		w     api.BlendWeights
		bound [2]int
		e     api.Errno
	}{
		{"the chapter's first example", casks(), sugar(50, 60), cheap(), [2]int{1250, 1}, api.OK},
		{"twice of it", casks(), sugar(50, 60), weights(40, 500, kinds(), kinds(2), 0, 0, 0), [2]int{1250, 1}, api.OK},
		{"one more for each decilitre", casks(), sugar(50, 60), first(func(w *api.BlendWeights) { w.Each = 251 }), [2]int{}, api.ErrProof},
		{"one less", casks(), sugar(50, 60), first(func(w *api.BlendWeights) { w.Each = 249 }), [2]int{1245, 1}, api.OK},
		{"less than nothing", casks(), sugar(50, 60), first(func(w *api.BlendWeights) { w.Each = -3 }), [2]int{-15, 1}, api.OK},
		{"nothing", casks(), sugar(50, 60), weights(1, 0, kinds(), kinds(), 0, 0, 0), [2]int{0, 1}, api.OK},
		{"the cheapest wine", casks(), sugar(50, 60), weights(1, 10, kinds(), kinds(), 0, 0, 0), [2]int{1000, 1}, api.OK},
		{"more than the cheapest wine", casks(), sugar(50, 60), weights(1, 11, kinds(), kinds(), 0, 0, 0), [2]int{}, api.ErrProof},
		{"all there is of it", casks(), sample(150), weights(1, 20, kinds(), kinds(), 10, 0, 0), [2]int{2000, 1}, api.OK},
		{"too little for all there is of it", casks(), sample(150), weights(1, 20, kinds(), kinds(), 9, 0, 0), [2]int{}, api.ErrProof},
		{"weights of all casks", casks(), sample(150), weights(1, 32, kinds(), kinds(), 22, 2, 12), [2]int{1800, 1}, api.OK},
		{"the weight of another cask", casks(), sample(150), weights(1, 32, kinds(), kinds(), 22, 12, 2), [2]int{}, api.ErrProof},
		{"a bound that is not whole", casks(), sample(100), weights(3, 29, kinds(), kinds(), 0, 0, 0), [2]int{2900, 3}, api.OK},
		{"too much sugar", casks(), sugar(0, 60), weights(1, 70, kinds(1), kinds(), 0, 0, 0), [2]int{}, api.ErrProof},
		{"less of too much sugar", casks(), sugar(0, 60), weights(10, -500, kinds(10), kinds(), 0, 0, 0), [2]int{-5000, 1}, api.OK},
		{"of another kind", casks(), sugar(50, 60), weights(20, 250, kinds(), kinds(0, 1), 0, 0, 0), [2]int{}, api.ErrProof},
		{"of the high end", casks(), sugar(50, 60), weights(20, 250, kinds(1), kinds(), 0, 0, 0), [2]int{}, api.ErrProof},
		{"of both ends", casks(), sugar(50, 60), weights(20, 190, kinds(1), kinds(2), 0, 0, 0), [2]int{950, 1}, api.OK},
		{"the greatest weights", large(0), dear, weights(1, mostWeight, four(0), four(mostWeight), mostWeight, mostWeight, mostWeight, mostWeight), [2]int{-3 * 1000000000000000000, 1}, api.OK},
		{"the greatest weights the other way", large(1000), all, weights(1, mostWeight, four(mostWeight), four(0), 0, 0, 0, 0), [2]int{1000000000000000000, 1}, api.OK},
		{"the least bound", large(1000), all, weights(1, -mostWeight, four(mostWeight), four(0), mostWeight, mostWeight, mostWeight, mostWeight), [2]int{-5 * 1000000000000000000, 1}, api.OK},
		{"the greatest weights against it", large(0), dear, weights(mostDen, -mostWeight, four(mostWeight), four(0), mostWeight, mostWeight, mostWeight, mostWeight), [2]int{}, api.ErrProof},
		{"the greatest weights against it, the other way", large(1000), all, weights(mostDen, -mostWeight, four(0), four(mostWeight), mostWeight, mostWeight, mostWeight, mostWeight), [2]int{}, api.ErrProof},
		{"the greatest cost", large(0), sample(10000), weights(mostDen, mostWeight, four(0), four(0), 0, 0, 0, 0), [2]int{5000000, 1}, api.OK},
	} {
		got, e := CheckWeights(x.l, x.s, x.w)
		want(t, x.what, got, e, x.bound, x.e)
	}
	for _, x := range wrongWeights() {
		got, e := CheckWeights(casks(), sugar(50, 60), x.w)
		refused(t, fmt.Sprint(x.w), got, e, x.e)
	}
}

// TestCheckFailure: P8.4.
func TestCheckFailure(t *testing.T) {
	third := func(change func(w *api.BlendWeights)) api.BlendWeights {
		w := hopeless()
		change(&w)
		return w
	}
	dear := sample(10000, just(1000), just(1000), just(1000), just(1000))
	for _, x := range []struct {
		what string
		l    []api.BlendCask
		s    api.BlendSample
		w    api.BlendWeights
		e    api.Errno
	}{
		{"the chapter's third example", casks(), sugar(180, 200), hopeless(), api.OK},
		{"whatever it is divided by", casks(), sugar(180, 200), third(func(w *api.BlendWeights) { w.Den = 7 }), api.OK},
		{"one more for each decilitre", casks(), sugar(180, 200), third(func(w *api.BlendWeights) { w.Each = 81 }), api.ErrProof},
		{"a bound just above nothing", casks(), sugar(180, 200), third(func(w *api.BlendWeights) { w.Each = 51 }), api.OK},
		{"a bound that is nothing", casks(), sugar(180, 200), third(func(w *api.BlendWeights) { w.Each = 50 }), api.ErrProof},
		{"just enough of a cask", casks(), sugar(180, 200), weights(1, 51, kinds(), kinds(1), 0, 0, 71), api.OK},
		{"too little of a cask", casks(), sugar(180, 200), weights(1, 51, kinds(), kinds(1), 0, 0, 70), api.ErrProof},
		{"of a sample that a blend meets", casks(), sugar(150, 200), weights(1, 50, kinds(), kinds(1), 0, 0, 100), api.ErrProof},
		{"no weights", casks(), sugar(180, 200), weights(1, 0, kinds(), kinds(), 0, 0, 0), api.ErrProof},
		{"too little wine", casks(), sample(251), weights(1, 1, kinds(), kinds(), 1, 1, 1), api.OK},
		{"just enough wine", casks(), sample(250), weights(1, 1, kinds(), kinds(), 1, 1, 1), api.ErrProof},
		{"weights that prove a cost", casks(), sugar(50, 60), cheap(), api.ErrProof},
		{"the high end", []api.BlendCask{cask("a", 9, 0, 7, 3)}, sample(5, just(7), from(0, 2)), weights(1, 1, kinds(0, 1), kinds(), 0), api.OK},
		{"of another kind", []api.BlendCask{cask("a", 9, 0, 7, 3)}, sample(5, just(7), from(0, 2)), weights(1, 1, kinds(1, 0), kinds(), 0), api.ErrProof},
		{"the greatest weights", large(0), dear, weights(mostDen, mostWeight, four(0), four(mostWeight), 0, 0, 0, 0), api.OK},
		{"the greatest weights of casks, too", large(0), dear, weights(mostDen, mostWeight, four(0), four(mostWeight), mostWeight, mostWeight, mostWeight, mostWeight), api.ErrProof},
		{"the greatest weights against it", large(0), dear, weights(mostDen, mostWeight, four(mostWeight), four(0), 0, 0, 0, 0), api.ErrProof},
	} {
		want(t, x.what, 0, CheckFailure(x.l, x.s, x.w), 0, x.e)
	}
	for _, x := range wrongWeights() {
		want(t, fmt.Sprint(x.w), 0, CheckFailure(casks(), sugar(180, 200), x.w), 0, x.e)
	}
}
