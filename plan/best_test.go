package plan

import (
	"fmt"
	"testing"

	"criadera/api"
)

// TestCheckWeights: P6.3.
func TestCheckWeights(t *testing.T) {
	most := api.MaxPlanWeight
	for _, x := range []struct {
		what  string
		p     api.PlanProgram
		w     api.PlanWeights
		bound api.Frac
		e     api.Errno
	}{
		{"the chapter's first example", one(), weights(3, numbers(2), numbers(0)), frac(200, 3), api.OK},
		{"not in lowest terms", one(), weights(30, numbers(20), numbers(0)), frac(200, 3), api.OK},
		{"more than is needed", one(), weights(1, numbers(1), numbers(0)), frac(100, 1), api.OK},
		{"the Most alone", one(), weights(1, numbers(0), numbers(2)), frac(200, 1), api.OK},
		{"both", one(), weights(6, numbers(2), numbers(6)), frac(400, 3), api.OK},
		{"too little", one(), weights(3, numbers(1), numbers(0)), api.Frac{}, api.ErrProof},
		{"a little too little", one(), weights(most, numbers(most/3*2), numbers(0)), api.Frac{}, api.ErrProof},
		{"nothing", one(), weights(1, numbers(0), numbers(0)), api.Frac{}, api.ErrProof},
		{"the chapter's second example", two(), weights(1, numbers(2), numbers(1, 0)), frac(34, 1), api.OK},
		{"too little on the first draw", two(), weights(1, numbers(2), numbers(0, 1)), api.Frac{}, api.ErrProof},
		{"too little on the second draw", two(), weights(1, numbers(1), numbers(2, 0)), api.Frac{}, api.ErrProof},
		{"a bound below 0", none(), weights(1, numbers(2, 4), numbers(0)), frac(40, 1), api.OK},
		{"one far below 0", none(), weights(1, numbers(10, 28), numbers(0)), frac(-120, 1), api.OK},
		{"weights of 0 where nothing gains", programOf(numbers(5, 6), numbers(0, -3), demand("a", -5, -1, 0)), weights(9, numbers(0), numbers(0, 0)), frac(0, 1), api.OK},
		{"no demands", programOf(numbers(5), numbers(7)), weights(2, nil, numbers(14)), frac(35, 1), api.OK},
		{"a great bound", programOf(numbers(1000000), numbers(1)), weights(1, nil, numbers(1000)), frac(1000000000, 1), api.OK},
		{"one that is not small", programOf(numbers(1000000), numbers(1)), weights(1, nil, numbers(1001)), api.Frac{}, api.ErrLarge},
		{"a great denominator", programOf(numbers(1), numbers(0)), weights(1000000000, nil, numbers(1)), frac(1, 1000000000), api.OK},
		{"one that is not small either", programOf(numbers(1), numbers(0)), weights(1000000001, nil, numbers(1)), api.Frac{}, api.ErrLarge},
		{"one that is far below 0", programOf(numbers(1), numbers(0), demand("a", -1000000, 0)), weights(1, numbers(1001), numbers(0)), api.Frac{}, api.ErrLarge},
		{"too little, and not small", programOf(numbers(1), numbers(1)), weights(1000000001, nil, numbers(1)), api.Frac{}, api.ErrProof},
		{"the greatest numbers", programOf(numbers(1000000), numbers(100), demand("a", 1000000, 100)), weights(most, numbers(most), numbers(most)), frac(2000000, 1), api.OK},
		{"the greatest numbers, refused", programOf(numbers(1000000), numbers(100), demand("a", 1000000, -100)), weights(most, numbers(most), numbers(most)), api.Frac{}, api.ErrProof},
	} {
		bound, e := CheckWeights(x.p, x.w)
		want(t, x.what, bound, e, x.bound, x.e)
	}
	for _, wrong := range wrongWeights() {
		bound, e := CheckWeights(one(), wrong.w)
		refused(t, fmt.Sprint(wrong.w), bound, e, wrong.e)
	}
	for e, wrong := range wrongPrograms() {
		bound, f := CheckWeights(wrong, weights(0, nil, nil))
		refused(t, "a wrong programme", bound, f, e)
	}
}

// TestCheckRefuted: P6.3.
func TestCheckRefuted(t *testing.T) {
	most := api.MaxPlanWeight
	for _, x := range []struct {
		what string
		p    api.PlanProgram
		w    api.PlanWeights
		e    api.Errno
	}{
		{"the chapter's example", none(), weights(1, numbers(1, 3), numbers(0)), api.OK},
		{"any denominator", none(), weights(most, numbers(1, 3), numbers(0)), api.OK},
		{"less on the draw than nothing", none(), weights(1, numbers(1, 4), numbers(0)), api.ErrProof},
		{"the Most makes up for it", none(), weights(10, numbers(100, 301), numbers(1)), api.OK},
		{"a bound of 0", none(), weights(1, numbers(12, 30), numbers(0)), api.ErrProof},
		{"a bound just below 0", none(), weights(1, numbers(119, 298), numbers(0)), api.OK},
		{"nothing", none(), weights(1, numbers(0, 0), numbers(0)), api.ErrProof},
		{"a programme with points", one(), weights(1, numbers(1), numbers(1)), api.ErrProof},
		{"no demands", programOf(numbers(0), numbers(1)), weights(1, nil, numbers(1)), api.ErrProof},
		{"coefficients 0 and an Amount below 0", one(demand("no", -1, 0)), weights(7, numbers(0, 1), numbers(0)), api.OK},
		{"more than the Most", one(demand("b", -101, -1)), weights(1, numbers(0, 1), numbers(1)), api.OK},
		{"two draws", two(demand("b", -13, -1, -1)), weights(1, numbers(1, 1), numbers(0, 0)), api.OK},
		{"less than nothing on the second draw", two(demand("b", -13, -1, -2)), weights(1, numbers(1, 1), numbers(0, 0)), api.ErrProof},
		{"the gains do not matter", programOf(numbers(5), numbers(100), demand("b", -6, -1)), weights(1, numbers(1), numbers(1)), api.OK},
		{"the greatest numbers", programOf(numbers(1), numbers(100), demand("b", -1000000, 100)), weights(most, numbers(most), numbers(most)), api.OK},
	} {
		want(t, x.what, 0, CheckRefuted(x.p, x.w), 0, x.e)
	}
	for _, wrong := range wrongWeights() {
		want(t, fmt.Sprint(wrong.w), 0, CheckRefuted(one(), wrong.w), 0, wrong.e)
	}
	for e, wrong := range wrongPrograms() {
		want(t, "a wrong programme", 0, CheckRefuted(wrong, weights(0, nil, nil)), 0, e)
	}
}

// steep is a programme whose greatest gain is not small: two demands that meet at a point of the denominator 9408.
func steep() api.PlanProgram {
	return programOf(numbers(1000000, 1000000), numbers(100, 99), demand("a", 999983, 97, 1), demand("b", 999979, 1, 97))
}

// TestBest: P6.3.
func TestBest(t *testing.T) {
	for _, x := range []struct {
		what string
		p    api.PlanProgram
		gain api.Frac
	}{
		{"the chapter's first example", one(), frac(200, 3)},
		{"the chapter's second example", two(), frac(34, 1)},
		{"no demands", programOf(numbers(5, 6, 7, 8), numbers(2, -3, 0, 4)), frac(42, 1)},
		{"nothing to be drawn", programOf(numbers(0, 0), numbers(100, 100)), frac(0, 1)},
		{"gains below 0", programOf(numbers(5, 6), numbers(-2, -3)), frac(0, 1)},
		{"gains below 0, and a demand that asks for more", programOf(numbers(5, 6), numbers(-2, -3), demand("a", -7, -1, -1)), frac(-16, 1)},
		{"just one point", programOf(numbers(10), numbers(-2), demand("a", 4, 1), demand("b", -4, -1)), frac(-8, 1)},
		{"just one point that is not whole", programOf(numbers(10), numbers(-2), demand("a", 1, 3), demand("b", -1, -3)), frac(-2, 3)},
		{"an Amount of 0", two(demand("b", 0, 1, -1)), frac(30, 1)},
		{"demands that say nothing", two(demand("b", 1000, 1, 1), demand("c", 0, 0, 0), demand("d", 0, -1, -1)), frac(34, 1)},
		{"the same demand twice", two(demand("b", 12, 1, 1), demand("c", 24, 2, 2)), frac(34, 1)},
		{"no gain at all", programOf(numbers(10, 10), numbers(0, 0), demand("a", -3, -1, 0)), frac(0, 1)},
		{"what allows one point with draws of 0", programOf(numbers(10, 10), numbers(1, 1), demand("a", 0, 1, 1)), frac(0, 1)},
	} {
		b, e := Best(x.p)
		want(t, x.what, b.Gain, e, x.gain, api.OK)
		gain, e := CheckPoint(x.p, b.Point)
		want(t, x.what+": the point", gain, e, x.gain, api.OK)
		gain, e = CheckWeights(x.p, b.Weights)
		want(t, x.what+": the weights", gain, e, x.gain, api.OK)
	}
	b, e := Best(one())
	want(t, "the only point", b.Point, e, point(3, 100), api.OK)
	want(t, "the only weights", b.Weights, e, weights(3, numbers(2), numbers(0)), api.OK)
	b, e = Best(steep())
	refused(t, "a gain that is not small", b, e, api.ErrLarge)
	for _, p := range []api.PlanProgram{none(), one(demand("no", -1, 0)), two(demand("b", -13, -1, -1)), programOf(numbers(5), numbers(1), demand("b", -6, -1))} {
		b, e := Best(p)
		refused(t, fmt.Sprint(p), b, e, api.ErrNone)
	}
	for e, wrong := range wrongPrograms() {
		b, f := Best(wrong)
		refused(t, "a wrong programme", b, f, e)
	}
}

// TestRefute: P6.3.
func TestRefute(t *testing.T) {
	for _, p := range []api.PlanProgram{
		none(),
		one(demand("no", -1, 0)),
		one(demand("b", -101, -1)),
		one(demand("b", -101, -1), demand("no", -1, 0), demand("c", 0, 0)),
		two(demand("b", -13, -1, -1)),
		two(demand("idle", 100, 1, 1), demand("b", -13, -1, -1), demand("c", -14, -1, -1)),
		programOf(numbers(0), numbers(1), demand("b", -1, -100)),
		programOf(numbers(1000000, 1000000, 1000000, 1000000), numbers(1, 1, 1, 1), demand("b", -1000000, 100, 100, 100, 100)),
	} {
		w, e := Refute(p)
		want(t, fmt.Sprint(p, w), 0, CheckRefuted(p, w), 0, api.OK)
		want(t, fmt.Sprint(p), 0, e, 0, api.OK)
	}
	for _, p := range []api.PlanProgram{one(), two(), steep(), programOf(numbers(0), numbers(1)), one(demand("b", 0, 0)), one(demand("b", -33, -1))} {
		w, e := Refute(p)
		refused(t, fmt.Sprint(p), w, e, api.ErrNone)
	}
	for e, wrong := range wrongPrograms() {
		w, f := Refute(wrong)
		refused(t, "a wrong programme", w, f, e)
	}
}

// TestHolding: P6.3.
func TestHolding(t *testing.T) {
	for _, x := range []struct {
		what string
		p    api.PlanProgram
		l    []int
	}{
		{"the chapter's first example", one(), numbers(0)},
		{"the chapter's second example", two(), numbers(0)},
		{"no demands", programOf(numbers(5), numbers(1)), nil},
		{"a demand that is just met", programOf(numbers(5), numbers(1), demand("a", 5, 1)), nil},
		{"one that takes a little", programOf(numbers(5), numbers(1), demand("a", 499, 100)), numbers(0)},
		{"the same demand twice", two(demand("b", 12, 1, 1)), nil},
		{"the stronger one of two", two(demand("b", 11, 1, 1)), numbers(1)},
		{"two of three", two(demand("b", 5, 1, 0), demand("idle", 100, 1, 1)), numbers(0, 1)},
		{"a demand that asks for more", programOf(numbers(5, 6), numbers(-2, -3), demand("a", -7, -1, -1)), numbers(0)},
		{"gains that are not small", steep(), numbers(0, 1)},
		{"nothing gains", programOf(numbers(5), numbers(0), demand("a", 3, 1)), nil},
	} {
		l, e := Holding(x.p)
		want(t, x.what, l, e, x.l, api.OK)
	}
	for _, p := range []api.PlanProgram{none(), one(demand("no", -1, 0))} {
		l, e := Holding(p)
		refused(t, fmt.Sprint(p), l, e, api.ErrNone)
	}
	for e, wrong := range wrongPrograms() {
		l, f := Holding(wrong)
		refused(t, "a wrong programme", l, f, e)
	}
}

// TestHoldingALittle: P6.3: greatest gains that differ by little, all of them far from small. The demand c is the sum of the others, or one decilitre more or less.
func TestHoldingALittle(t *testing.T) {
	for amount, holding := range map[int][]int{999961: numbers(0, 2), 999962: numbers(0), 999963: numbers(0, 1)} {
		p := programOf(numbers(1000000, 1000000), numbers(100, 99), demand("a", 499983, 97, 1), demand("b", 499979, 1, 97), demand("c", amount, 98, 98))
		l, e := Holding(p)
		want(t, fmt.Sprint(amount), l, e, holding, api.OK)
		b, e := Best(p)
		refused(t, fmt.Sprint(amount), b, e, api.ErrLarge)
	}
}

// TestFailing: P6.3.
func TestFailing(t *testing.T) {
	no := demand("no", -1, 0)
	for _, x := range []struct {
		what string
		p    api.PlanProgram
		l    []int
	}{
		{"the chapter's example", none(), numbers(0, 1)},
		{"one alone", one(no), numbers(1)},
		{"one alone, and more", one(demand("b", 1, 1), no, demand("c", 1, 1)), numbers(2)},
		{"two alone, of which both must go", one(no, demand("no-2", -1, 0)), nil},
		{"one against two", one(demand("b", -40, -1), demand("c", -50, -1)), numbers(0)},
		{"two against two", one(demand("b", -40, -1), demand("c", -50, -1), demand("d", 20, 1)), nil},
	} {
		l, e := Failing(x.p)
		want(t, x.what, l, e, x.l, api.OK)
	}
	for _, p := range []api.PlanProgram{one(), two(), steep(), programOf(numbers(0), numbers(0))} {
		l, e := Failing(p)
		refused(t, fmt.Sprint(p), l, e, api.ErrNone)
	}
	for e, wrong := range wrongPrograms() {
		l, f := Failing(wrong)
		refused(t, "a wrong programme", l, f, e)
	}
}

// TestBestStays: R3: lists of one result share no memory, neither with a programme nor with each other.
func TestBestStays(t *testing.T) {
	p := two(demand("b", 9, 1, 0))
	kept := copied(p)
	b, _ := Best(p)
	_ = append(b.Point.Parts, 7)
	_ = append(b.Weights.Demands, 7)
	bound, e := CheckWeights(p, b.Weights)
	want(t, "the weights", bound, e, b.Gain, api.OK)
	p = none()
	w, _ := Refute(p)
	_ = append(w.Demands, 7)
	want(t, "the weights that refute", 0, CheckRefuted(p, w), 0, api.OK)
	for _, l := range [][]int{b.Point.Parts, b.Weights.Demands, b.Weights.Top, w.Demands, w.Top} {
		for i := range l {
			l[i] = 7
		}
	}
	want(t, "the programme", two(demand("b", 9, 1, 0)), 0, kept, 0)
	want(t, "the other programme", p, 0, none(), 0)
}
