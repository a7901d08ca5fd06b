package checks

import (
	"math"
	"testing"

	"criadera/api"
)

func TestFirst(t *testing.T) {
	for _, x := range []struct {
		l []api.Errno
		e api.Errno
	}{
		{nil, api.OK},
		{[]api.Errno{api.OK, api.OK}, api.OK},
		{[]api.Errno{api.OK, api.ErrOrder, api.ErrRange, api.OK}, api.ErrOrder},
		{[]api.Errno{api.ErrRank}, api.ErrRank},
	} {
		if e := First(x.l...); e != x.e {
			t.Errorf("the first error of %v: %d", x.l, e)
		}
	}
}

func TestUnless(t *testing.T) {
	if e := Unless(true, api.ErrForm); e != api.OK {
		t.Error(e)
	}
	if e := Unless(false, api.ErrForm); e != api.ErrForm {
		t.Error(e)
	}
}

func TestNumber(t *testing.T) {
	for n, e := range map[int]api.Errno{3: api.OK, 4: api.OK, 5: api.OK, 2: api.ErrRange, 6: api.ErrRange, math.MinInt: api.ErrRange, math.MaxInt: api.ErrRange} {
		if f := Number(n, 3, 5); f != e {
			t.Errorf("%d: %d", n, f)
		}
	}
}

func TestRange(t *testing.T) {
	for r, e := range map[api.Range]api.Errno{
		{}:                                 api.OK,
		{Lo: 5, Hi: 5}:                     api.OK,
		{Lo: 0, Hi: 5}:                     api.OK,
		{Lo: 3, Hi: 2}:                     api.ErrOrder,
		{Lo: -1, Hi: 2}:                    api.ErrRange,
		{Lo: 2, Hi: -1}:                    api.ErrRange,
		{Lo: 2, Hi: 6}:                     api.ErrRange,
		{Lo: 6, Hi: 2}:                     api.ErrRange,
		{Lo: math.MaxInt, Hi: math.MinInt}: api.ErrRange,
	} {
		if f := Range(r, 5); f != e {
			t.Errorf("%v: %d", r, f)
		}
	}
}

func TestDate(t *testing.T) {
	for day, e := range map[int]api.Errno{0: api.OK, api.MaxDate: api.OK, -1: api.ErrRange, api.MaxDate + 1: api.ErrRange} {
		if f := Date(day); f != e {
			t.Errorf("%d: %d", day, f)
		}
	}
}

func TestName(t *testing.T) {
	for s, e := range map[string]api.Errno{"butt": api.OK, "": api.ErrName, "9": api.ErrName, "abcdefghijklm": api.ErrName} {
		if f := Name(s); f != e {
			t.Errorf("%q: %d", s, f)
		}
	}
}

func TestNumbers(t *testing.T) {
	for _, x := range []struct {
		l []int
		e api.Errno
	}{
		{nil, api.OK}, {[]int{3, 5, 4, 3}, api.OK}, {[]int{2}, api.ErrRange}, {[]int{3, 6}, api.ErrRange}, {[]int{3, 4, math.MinInt}, api.ErrRange},
	} {
		if e := Numbers(x.l, 3, 5); e != x.e {
			t.Errorf("%v: %d", x.l, e)
		}
	}
}

func TestEach(t *testing.T) {
	errors := []api.Errno{api.OK, api.OK, api.ErrOrder, api.ErrRange}
	looked := 0
	errorOf := func(n int) api.Errno {
		looked++
		return errors[n]
	}
	for _, x := range []struct {
		count, n int
		e        api.Errno
		looked   int
	}{
		{0, 0, api.OK, 0}, {2, 0, api.OK, 2}, {3, 2, api.ErrOrder, 3}, {4, 2, api.ErrOrder, 3},
	} {
		looked = 0
		if n, e := Each(x.count, errorOf); n != x.n || e != x.e || looked != x.looked {
			t.Errorf("of %d: %d, %d, looked at %d", x.count, n, e, looked)
		}
	}
}

func TestElements(t *testing.T) {
	for n, e := range map[int]api.Errno{0: api.OK, 2: api.OK, -1: api.ErrMissing, 3: api.ErrMissing, math.MinInt: api.ErrMissing, math.MaxInt: api.ErrMissing} {
		if f := Element(n, 3); f != e {
			t.Errorf("%d: %d", n, f)
		}
		for _, l := range [][]int{{n}, {2, n}, {n, 0}, {1, n, 1}} {
			if f := Elements(l, 3); f != e {
				t.Errorf("%v: %d", l, f)
			}
		}
	}
	if e := Element(0, 0); e != api.ErrMissing {
		t.Errorf("of none: %d", e)
	}
	if e := Elements(nil, 0); e != api.OK {
		t.Errorf("none: %d", e)
	}
}

func TestChosen(t *testing.T) {
	for _, x := range []struct {
		l []int
		e api.Errno
	}{
		{nil, api.OK}, {[]int{0}, api.OK}, {[]int{0, 1, 2}, api.OK}, {[]int{2}, api.OK},
		{[]int{3}, api.ErrMissing}, {[]int{-1}, api.ErrMissing}, {[]int{0, math.MaxInt}, api.ErrMissing}, {[]int{math.MinInt, 0}, api.ErrMissing},
		{[]int{1, 0}, api.ErrOrder}, {[]int{1, 1}, api.ErrOrder}, {[]int{1, 0, 3}, api.ErrOrder}, {[]int{1, -1}, api.ErrMissing}, {[]int{0, 3, 1}, api.ErrMissing},
	} {
		if e := Chosen(x.l, 3); e != x.e {
			t.Errorf("%v: %d, want %d", x.l, e, x.e)
		}
	}
}
