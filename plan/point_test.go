package plan

import (
	"fmt"
	"testing"

	"criadera/api"
)

func frac(num, den int) api.Frac { return api.Frac{Num: num, Den: den} }

// TestCheckPoint: P6.2.
func TestCheckPoint(t *testing.T) {
	few := programOf(numbers(10, 10), numbers(-3, 2), demand("least", -4, -1, -1))
	for _, x := range []struct {
		what string
		p    api.PlanProgram
		x    api.PlanPoint
		gain api.Frac
		e    api.Errno
	}{
		{"the chapter's first example", one(), point(3, 100), frac(200, 3), api.OK},
		{"not in lowest terms", one(), point(30, 1000), frac(200, 3), api.OK},
		{"nothing", one(), point(7, 0), frac(0, 1), api.OK},
		{"a little more", one(), point(3, 101), api.Frac{}, api.ErrClash},
		{"very little more", one(), point(api.MaxPlanWeight-1, (api.MaxPlanWeight-1)/3*100+1), api.Frac{}, api.ErrClash},
		{"a draw of its Most", programOf(numbers(100), numbers(2)), point(2, 200), frac(200, 1), api.OK},
		{"a draw of more than its Most", programOf(numbers(100), numbers(2)), point(2, 201), api.Frac{}, api.ErrBreak},
		{"more than its Most, and more than a demand allows", one(), point(2, 201), api.Frac{}, api.ErrBreak},
		{"the greatest draw", one(), point(1, api.MaxNumber), api.Frac{}, api.ErrBreak},
		{"the greatest numbers", programOf(numbers(1000000), numbers(100), demand("x", 0, -100)), point(api.MaxPlanWeight, api.MaxNumber), frac(1000000, 1), api.OK},
		{"the chapter's second example", two(), point(1, 10, 2), frac(34, 1), api.OK},
		{"too much of the second draw", two(), point(1, 1, 11), api.Frac{}, api.ErrBreak},
		{"too much together", two(), point(1, 10, 3), api.Frac{}, api.ErrClash},
		{"the second demand", two(demand("b", 4, 0, 1)), point(1, 0, 5), api.Frac{}, api.ErrClash},
		{"a gain below 0", few, point(2, 8, 0), frac(-12, 1), api.OK},
		{"a gain below 0 that is not whole", few, point(6, 23, 1), frac(-67, 6), api.OK},
		{"gains that come to nothing", few, point(1, 2, 3), frac(0, 1), api.OK},
		{"too little", few, point(2, 7, 0), api.Frac{}, api.ErrClash},
		{"a small gain", programOf(numbers(1), numbers(1)), point(1000000000, 1), frac(1, 1000000000), api.OK},
		{"one that is not small", programOf(numbers(1), numbers(1)), point(1000000001, 1), api.Frac{}, api.ErrLarge},
		{"one that is small in lowest terms", programOf(numbers(1), numbers(1)), point(api.MaxPlanWeight, 100), frac(1, 1000000000), api.OK},
		{"a great gain", programOf(numbers(1000000), numbers(100)), point(11, 10999999), frac(1099999900, 11), api.ErrLarge},
		{"a gain far below 0", programOf(numbers(1000000), numbers(-100)), point(11, 10999999), frac(-1099999900, 11), api.ErrLarge},
		{"a gain of the greatest size", programOf(numbers(1000000), numbers(100)), point(11, 10000000), frac(1000000000, 11), api.OK},
		{"one of the greatest size below 0", programOf(numbers(1000000), numbers(-100)), point(11, 10000000), frac(-1000000000, 11), api.OK},
	} {
		if x.e != api.OK {
			x.gain = api.Frac{}
		}
		gain, e := CheckPoint(x.p, x.x)
		want(t, x.what, gain, e, x.gain, x.e)
	}
	for _, wrong := range wrongPoints() {
		gain, e := CheckPoint(none(), wrong.x)
		refused(t, fmt.Sprint(wrong.x), gain, e, wrong.e)
	}
	for e, wrong := range wrongPrograms() {
		gain, f := CheckPoint(wrong, point(0))
		refused(t, "a wrong programme", gain, f, e)
	}
}

// TestFirstBroken: P6.2.
func TestFirstBroken(t *testing.T) {
	three := two(demand("b", 4, 0, 1), demand("c", 8, 1, 0))
	for _, x := range []struct {
		what string
		p    api.PlanProgram
		x    api.PlanPoint
		n    int
		e    api.Errno
	}{
		{"the chapter's example", one(), point(3, 101), 0, api.OK},
		{"just at it", one(), point(3, 100), 0, api.ErrNone},
		{"the second demand alone", three, point(1, 0, 5), 1, api.OK},
		{"the last demand alone", three, point(2, 17, 0), 2, api.OK},
		{"the first of two", three, point(1, 9, 5), 0, api.OK},
		{"all hold", three, point(1, 8, 4), 0, api.ErrNone},
		{"draws above their Most", three, point(1, 1000, 0), 0, api.OK},
		{"draws above their Most, whatever they are", programOf(numbers(1), numbers(1), demand("x", 5, 1)), point(1, 5), 0, api.ErrNone},
		{"no demands", programOf(numbers(1), numbers(1)), point(1, api.MaxNumber), 0, api.ErrNone},
		{"a demand of coefficients 0", programOf(numbers(1), numbers(1), demand("x", -1, 0)), point(api.MaxPlanWeight, 0), 0, api.OK},
		{"the greatest numbers", programOf(numbers(1), numbers(1), demand("x", 1000000, -100)), point(api.MaxPlanWeight, api.MaxNumber), 0, api.ErrNone},
	} {
		n, e := FirstBroken(x.p, x.x)
		want(t, x.what, n, e, x.n, x.e)
	}
	for _, wrong := range wrongPoints() {
		n, e := FirstBroken(one(), wrong.x)
		refused(t, fmt.Sprint(wrong.x), n, e, wrong.e)
	}
	for e, wrong := range wrongPrograms() {
		n, f := FirstBroken(wrong, point(0))
		refused(t, "a wrong programme", n, f, e)
	}
}

// TestBinding: P6.2.
func TestBinding(t *testing.T) {
	four := two(demand("b", 4, 0, 1), demand("c", -8, -1, 0), demand("zero", 0, 0, 0))
	for _, x := range []struct {
		what string
		p    api.PlanProgram
		x    api.PlanPoint
		l    []int
	}{
		{"the chapter's example", one(), point(3, 100), numbers(0)},
		{"not in lowest terms", one(), point(6, 200), numbers(0)},
		{"a little less", one(), point(3, 99), nil},
		{"a little more", one(), point(3, 101), nil},
		{"all of them", four, point(1, 8, 4), numbers(0, 1, 2, 3)},
		{"some of them", four, point(2, 15, 8), numbers(1, 3)},
		{"far outside", four, point(1, 8, 1000), numbers(2, 3)},
		{"no demands", programOf(numbers(1), numbers(1)), point(1, 1), nil},
	} {
		l, e := Binding(x.p, x.x)
		want(t, x.what, l, e, x.l, api.OK)
	}
	for _, wrong := range wrongPoints() {
		l, e := Binding(one(), wrong.x)
		refused(t, fmt.Sprint(wrong.x), l, e, wrong.e)
	}
	for e, wrong := range wrongPrograms() {
		l, f := Binding(wrong, point(0))
		refused(t, "a wrong programme", l, f, e)
	}
}
