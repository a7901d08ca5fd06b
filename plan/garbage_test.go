package plan

import (
	"math"
	"math/rand"
	"testing"

	"criadera/api"
)

// wild is a number that is seldom right.
func wild(r *rand.Rand) int {
	numbers := []int{0, 1, -1, 2, 100, 101, -100, 1000, 20000, 20001, 1000000, -1000000, api.MaxPlanWeight, api.MaxPlanWeight + 1, api.MaxNumber, math.MinInt, math.MaxInt}
	return numbers[r.Intn(len(numbers))]
}

func wildList(r *rand.Rand, most int) []int {
	var l []int
	for range r.Intn(most + 1) {
		l = append(l, wild(r))
	}
	return l
}

// wildProgram is a random programme, mostly right, of which some part is wild.
func wildProgram(r *rand.Rand) api.PlanProgram {
	p := someProgram(r, 3, 3)
	switch r.Intn(6) {
	case 0:
		p.Most = p.Most[:r.Intn(len(p.Most))]
	case 1:
		p.Gain[0] = wild(r)
	case 2:
		p.Demands = append(p.Demands, demand("wild", wild(r), wildList(r, 4)...))
	}
	return p
}

// wildSystem is a random system, mostly right, of which some part is wild.
func wildSystem(r *rand.Rand) api.PlanSystem {
	s := someSystem(r, 1000)
	switch x := &s.Scales[r.Intn(len(s.Scales))]; r.Intn(8) {
	case 0:
		s.Scales = s.Scales[:r.Intn(len(s.Scales))]
	case 1:
		x.Volume = wild(r)
	case 2:
		x.Loss = from(wild(r), wild(r))
	case 3:
		x.Least = wild(r)
	case 4:
		s.New = wild(r)
	}
	return s
}

func wildAges(r *rand.Rand, s api.PlanSystem) []api.Range {
	l := someAges(r, s)
	switch r.Intn(6) {
	case 0:
		l = append(l, just(0))
	case 1:
		l = append([]api.Range{from(wild(r), wild(r))}, l[min(1, len(l)):]...)
	}
	return l
}

// TestGarbage: R1 and R2: whatever the arguments are, each function ends, and beside an error there is nothing.
func TestGarbage(t *testing.T) {
	r := rand.New(rand.NewSource(11))
	right, wrong := 0, 0
	seen := func(e api.Errno, isNothing bool) {
		t.Helper()
		if e == api.OK {
			right++
			return
		}
		wrong++
		if !isNothing {
			t.Errorf("something beside the error %d", e)
		}
	}
	for range 5000 {
		p, x := wildProgram(r), point(wild(r), wildList(r, 3)...)
		w := weights(wild(r), wildList(r, 3), wildList(r, 3))
		gain, e := CheckPoint(p, x)
		seen(e, gain == api.Frac{})
		n, e := FirstBroken(p, x)
		seen(e, n == 0)
		l, e := Binding(p, x)
		seen(e, len(l) == 0)
		b, e := Best(p)
		seen(e, b.Gain == api.Frac{} && b.Point.Den == 0 && b.Point.Parts == nil && b.Weights.Den == 0 && b.Weights.Demands == nil && b.Weights.Top == nil)
		gain, e = CheckWeights(p, w)
		seen(e, gain == api.Frac{})
		seen(CheckRefuted(p, w), true)
		w, e = Refute(p)
		seen(e, w.Den == 0 && w.Demands == nil && w.Top == nil)
		less, e := Without(p, wild(r))
		seen(e, len(less.Most)+len(less.Gain)+len(less.Demands) == 0)
		l, e = Holding(p)
		seen(e, len(l) == 0)
		l, e = Failing(p)
		seen(e, len(l) == 0)
		s := wildSystem(r)
		ages, draws := wildAges(r, s), wildList(r, 3)
		flows, e := Flows(s, wild(r))
		seen(e, len(flows) == 0)
		flows, e = Steady(s, wild(r))
		seen(e, len(flows) == 0)
		draw, n, e := ForEver(s)
		seen(e, draw == 0 && n == 0)
		flows, e = AgesAfter(s, ages, draws)
		seen(e, len(flows) == 0)
		short, e := FirstShort(s, ages, draws)
		seen(e, short == api.PlanShort{})
		draw, e = GreatestNow(s, ages)
		seen(e, draw == 0)
		read, e := ParseSystem(FormatSystem(s))
		seen(e, len(read.Scales) == 0 && read.New == 0)
	}
	if right < 10000 || wrong < 10000 {
		t.Errorf("%d calls were right, %d were not", right, wrong)
	}
}
