package blend

import (
	"fmt"
	"math"
	"math/rand"
	"slices"
	"testing"

	"criadera/api"
)

// wild is a number that is seldom right.
func wild(r *rand.Rand) int {
	l := numbers(0, 1, -1, 2, 50, 100, 1000, 1001, 10000, 10001, mostDen, mostDen+1, mostWeight, mostWeight+1, -mostWeight, -mostWeight-1, math.MinInt, math.MaxInt)
	return l[r.Intn(len(l))]
}

func wildList(r *rand.Rand, most int) []int {
	var l []int
	for range r.Intn(most + 1) {
		l = append(l, wild(r))
	}
	return l
}

// wildCasks is random casks, mostly right, of which some part is wild.
func wildCasks(r *rand.Rand) []api.BlendCask {
	l := someCasks(r, 3)
	switch c := &l[r.Intn(len(l))]; r.Intn(20) {
	case 0:
		l = slices.Repeat(l, r.Intn(4))
	case 1:
		c.Name = ""
	case 2:
		c.Volume = wild(r)
	case 3:
		c.Cost = wild(r)
	case 4:
		c.Values[r.Intn(4)] = wild(r)
	}
	return l
}

// wildSample is a random sample, mostly right, of which some part is wild.
func wildSample(r *rand.Rand) api.BlendSample {
	s := someSample(r, casks())
	switch r.Intn(10) {
	case 0:
		s.Volume = wild(r)
	case 1:
		s.Values[r.Intn(4)] = from(wild(r), wild(r))
	}
	return s
}

// wildParts is parts of casks; some are right.
func wildParts(r *rand.Rand, l []api.BlendCask) api.BlendParts {
	p := parts(1, wildList(r, 4)...)
	if r.Intn(2) == 0 {
		p.Parts = make([]int, len(l))
	}
	if r.Intn(3) == 0 {
		p.Den = wild(r)
	}
	return p
}

// wildWeights is weights of casks; some are right.
func wildWeights(r *rand.Rand, l []api.BlendCask) api.BlendWeights {
	w := weights(1, wild(r), kinds(wildList(r, 1)...), kinds(wildList(r, 2)...), make([]int, len(l))...)
	switch r.Intn(4) {
	case 0:
		w.Casks = wildList(r, 4)
	case 1:
		w.Den = wild(r)
	}
	return w
}

// TestGarbage: R1 and R2: whatever the arguments are, each function ends, and beside an error there is nothing.
func TestGarbage(t *testing.T) {
	r := rand.New(rand.NewSource(11))
	right, wrong := 0, 0
	seen := func(isNothing bool, e api.Errno) {
		t.Helper()
		if e == api.OK {
			right++
			return
		}
		wrong++
		if !isNothing {
			t.Errorf("something beside the error %d", e)
		}
	}
	for range 3000 {
		l, s := wildCasks(r), wildSample(r)
		p, w, some := wildParts(r, l), wildWeights(r, l), wildList(r, 3)
		_, e := CheckCasks(l)
		seen(true, e)
		seen(true, CheckSample(s))
		seen(true, CheckParts(l, p))
		seen(nothing(MeanOf(l, p)))
		seen(nothing(CostOf(l, p)))
		seen(nothing(CheckBlend(l, s, p)))
		seen(nothing(CheckWeights(l, s, w)))
		seen(nothing(Best(l, s)))
		seen(true, CheckFailure(l, s, w))
		seen(nothing(Failure(l, s)))
		seen(nothing(DistanceOf(l, s, p)))
		seen(nothings(Nearest(l, s)))
		seen(nothing(Widened(s, wild(r))))
		seen(nothing(WholeMeans(l, some)))
		seen(nothing(CheckWhole(l, s, some)))
		seen(nothings(BestWhole(l, s)))
		seen(nothing(ParseRecipe(FormatRecipe(api.BlendRecipe{Name: "a", Casks: []string{"b", ""}, Volumes: some}))))
	}
	if right < 10000 || wrong < 10000 {
		t.Errorf("%d calls were right, %d were not", right, wrong)
	}
}

// TestArgumentsStay: R3: nothing is written into arguments, and results share no memory with them, with each other, or with later results.
func TestArgumentsStay(t *testing.T) {
	l, whole := casks(), numbers(0, 2)
	p, w := parts(2, 150, 0, 50), cheap()
	r := recipe("x", words("a", "b"), 1, 2)
	for range 2 {
		cost, e := CheckBlend(l, sugar(50, 60), p)
		want(t, "the cost", cost, e, [2]int{1250, 1}, api.OK)
		bound, e := CheckWeights(l, sugar(50, 60), w)
		want(t, "the bound", bound, e, [2]int{1250, 1}, api.OK)
		b, e := Best(l, sugar(50, 60))
		want(t, "the best one", b.Parts, e, parts(1, 75, 0, 25), api.OK)
		f, e := Failure(l, sugar(180, 200))
		want(t, "the failure", CheckFailure(l, sugar(180, 200), f), e, 0, api.OK)
		short, e := Failure(l, sample(300))
		want(t, "the want of wine", CheckFailure(l, sample(300), short), e, 0, api.OK)
		n, d, e := Nearest(l, sugar(180, 200))
		want(t, "the nearest one", d, e, [2]int{30, 1}, api.OK)
		best, _, e := BestWhole(l, sugar(60, 70))
		want(t, "the whole casks", best, e, numbers(0, 2), api.OK)
		all, e := CheckWhole(l, sugar(60, 70), whole)
		want(t, "the cost of whole casks", all, e, 2000, api.OK)
		read, e := ParseRecipe(FormatRecipe(r))
		want(t, "the recipe", read, e, r, api.OK)
		for _, list := range [][]int{b.Parts.Parts, b.Weights.Casks, f.Casks, short.Casks, n.Parts, best, read.Volumes} {
			_ = append(list, 99)
			for i := range list {
				list[i] = 99
			}
		}
		read.Casks[0] = "z"
		want(t, "the arguments", fmt.Sprint(l, p, w, whole, r), 0, fmt.Sprint(casks(), parts(2, 150, 0, 50), cheap(), numbers(0, 2), recipe("x", words("a", "b"), 1, 2)), 0)
	}
}
