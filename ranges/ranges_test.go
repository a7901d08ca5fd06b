package ranges

import (
	"testing"

	"criadera/api"
)

func TestRounding(t *testing.T) {
	for _, x := range []struct{ num, den, floor, ceiling int }{
		{0, 7, 0, 0}, {7, 7, 1, 1}, {13, 7, 1, 2}, {14, 7, 2, 2}, {15, 7, 2, 3},
		{-1, 7, -1, 0}, {-6, 7, -1, 0}, {-7, 7, -1, -1}, {-8, 7, -2, -1}, {5, 1, 5, 5}, {-5, 1, -5, -5},
	} {
		if n := Floor(x.num, x.den); n != x.floor {
			t.Errorf("%d / %d rounded down: %d", x.num, x.den, n)
		}
		if n := Ceiling(x.num, x.den); n != x.ceiling {
			t.Errorf("%d / %d rounded up: %d", x.num, x.den, n)
		}
	}
}

func TestOver(t *testing.T) {
	for r, want := range map[api.Range]api.Range{
		{Lo: 10, Hi: 20}:  {Lo: 1, Hi: 2},
		{Lo: 19, Hi: 21}:  {Lo: 1, Hi: 3},
		{Lo: -21, Hi: -9}: {Lo: -3, Hi: 0},
	} {
		if got := Over(r, 10); got != want {
			t.Errorf("%v over 10: %v", r, got)
		}
	}
}

func TestCommon(t *testing.T) {
	for _, x := range []struct {
		a, b, both api.Range
		nothing    bool
	}{
		{api.Range{Lo: 1, Hi: 5}, api.Range{Lo: 3, Hi: 9}, api.Range{Lo: 3, Hi: 5}, false},
		{api.Range{Lo: 1, Hi: 9}, api.Range{Lo: 3, Hi: 5}, api.Range{Lo: 3, Hi: 5}, false},
		{api.Range{Lo: 1, Hi: 3}, api.Range{Lo: 3, Hi: 5}, api.Range{Lo: 3, Hi: 3}, false},
		{api.Range{Lo: 1, Hi: 2}, api.Range{Lo: 3, Hi: 5}, api.Range{Lo: 3, Hi: 2}, true},
	} {
		for _, both := range []api.Range{Common(x.a, x.b), Common(x.b, x.a)} {
			if both != x.both || IsNothing(both) != x.nothing {
				t.Errorf("%v and %v: %v", x.a, x.b, both)
			}
		}
	}
}
