package scale

import (
	"testing"

	"criadera/api"
)

// TestCheckWine: P1.1.
func TestCheckWine(t *testing.T) {
	many := wineOf(1)
	for i := range 61 {
		many.Parts = append(many.Parts, api.ScalePart{Source: i, Amount: api.MaxScaleAmount})
	}
	largest := wineOf(api.MaxScaleDen)
	largest.Parts = many.Parts[:60]
	for _, x := range []struct {
		what string
		w    api.ScaleWine
		e    api.Errno
	}{
		{"the empty wine", wineOf(1), api.OK},
		{"an example", wineOf(4, 10, 3, 12, 5), api.OK},
		{"no denominator", api.ScaleWine{}, api.ErrRange},
		{"a denominator below 0", wineOf(-1, 1, 1), api.ErrRange},
		{"the greatest denominator", wineOf(api.MaxScaleDen, 1, 1, 2, api.MaxScaleDen-1), api.OK},
		{"a denominator above it", wineOf(api.MaxScaleDen+1, 1, 1, 2, api.MaxScaleDen), api.ErrRange},
		{"60 parts", manyOf(0, 60), api.OK},
		{"61 parts", manyOf(0, 61), api.ErrLarge},
		{"the denominator ahead of the parts", api.ScaleWine{Den: 0, Parts: many.Parts}, api.ErrRange},
		{"the number of parts ahead of each", api.ScaleWine{Den: 1, Parts: append(many.Parts[:60:60], api.ScalePart{Source: -1})}, api.ErrLarge},
		{"the source 0", wineOf(1, 0, 1), api.OK},
		{"a source below 0", wineOf(1, -1, 1), api.ErrRange},
		{"must", wineOf(1, api.ScaleMust, 1), api.OK},
		{"a source above must", wineOf(1, 403, 1), api.ErrRange},
		{"an amount of 0", wineOf(1, 5, 0), api.ErrRange},
		{"an amount below 0", wineOf(1, 5, -1), api.ErrRange},
		{"the greatest amount", wineOf(api.MaxScaleDen, 1, api.MaxScaleAmount, 2, 1), api.OK},
		{"an amount above it", wineOf(api.MaxScaleDen, 1, api.MaxScaleAmount+1), api.ErrRange},
		{"a source twice", wineOf(1, 5, 1, 5, 1), api.ErrOrder},
		{"descending sources", wineOf(1, 5, 1, 4, 1), api.ErrOrder},
		{"the range of a part ahead of its order", wineOf(1, 5, 1, 4, 0), api.ErrRange},
		{"the order of a part ahead of the next range", wineOf(1, 5, 1, 4, 1, 6, 0), api.ErrOrder},
		{"the greatest volume", wineOf(1, 402, 2000000), api.OK},
		{"a volume above it", wineOf(1, 5, 2000001), api.ErrLarge},
		{"a volume above it by a fraction", wineOf(2, 5, 4000001), api.ErrLarge},
		{"a volume above it in two parts", wineOf(1, 5, 2000000, 6, 1), api.ErrLarge},
		{"amounts that an int does not hold together", largest, api.ErrLarge},
		{"the order ahead of the volume", wineOf(1, 5, 2000001, 5, 1), api.ErrOrder},
		{"a volume that is not whole", wineOf(2, 5, 1), api.ErrForm},
		{"not in lowest terms", wineOf(2, 5, 2), api.ErrForm},
		{"not in lowest terms by several", wineOf(6, 5, 9, 6, 3), api.ErrForm},
		{"in lowest terms by two", wineOf(6, 5, 2, 6, 1, 7, 3), api.OK},
		{"nothing by a denominator", wineOf(2), api.ErrForm},
	} {
		want(t, x.what, 0, CheckWine(x.w), 0, x.e)
	}
}

// TestVolumeOf: P1.1.
func TestVolumeOf(t *testing.T) {
	v, e := VolumeOf(wineOf(4, 10, 3, 12, 5))
	want(t, "an example", v, e, 2, api.OK)
	v, e = VolumeOf(wineOf(1))
	want(t, "nothing", v, e, 0, api.OK)
	v, e = VolumeOf(wineOf(api.MaxScaleDen, 1, api.MaxScaleAmount, 2, 1))
	want(t, "great amounts", v, e, 1000000, api.OK)
	v, e = VolumeOf(wineOf(2, 5, 1))
	want(t, "a wrong wine", v, e, 0, api.ErrForm)
}

// TestShareOf: P1.1.
func TestShareOf(t *testing.T) {
	great := wineOf(api.MaxScaleDen, 1, api.MaxScaleAmount, 2, 1)
	for _, x := range []struct {
		what   string
		w      api.ScaleWine
		source int
		share  api.Range
		e      api.Errno
	}{
		{"an example", wineOf(4, 10, 3, 12, 5), 10, api.Range{Lo: 375000000, Hi: 375000000}, api.OK},
		{"two thirds", wineOf(3, 1, 1, 2, 2), 2, api.Range{Lo: 666666666, Hi: 666666667}, api.OK},
		{"all", wineOf(1, 401, 7), 401, api.Range{Lo: 1000000000, Hi: 1000000000}, api.OK},
		{"nothing of it", wineOf(1, 401, 7), 402, api.Range{}, api.OK},
		{"nearly all", great, 1, api.Range{Lo: 999999999, Hi: 1000000000}, api.OK},
		{"nearly nothing", great, 2, api.Range{Lo: 0, Hi: 1}, api.OK},
		{"the empty wine", wineOf(1), 2, api.Range{}, api.ErrZero},
		{"a wrong wine ahead of the source", wineOf(2), 403, api.Range{}, api.ErrForm},
		{"a wrong source ahead of the empty wine", wineOf(1), 403, api.Range{}, api.ErrRange},
		{"a source below 0", wineOf(1, 1, 1), -1, api.Range{}, api.ErrRange},
	} {
		r, e := ShareOf(x.w, x.source)
		want(t, x.what, r, e, x.share, x.e)
	}
}

// TestMixed: P1.1 and P1.10.
func TestMixed(t *testing.T) {
	odd := wineOf(api.MaxScaleDen, 1, api.MaxScaleAmount, 2, 1)
	for _, x := range []struct {
		what       string
		a, b, both api.ScaleWine
		e          api.Errno
	}{
		{"an example", wineOf(1, 10, 1), wineOf(4, 10, 3, 12, 5), wineOf(4, 10, 7, 12, 5), api.OK},
		{"with nothing", wineOf(4, 10, 3, 12, 5), wineOf(1), wineOf(4, 10, 3, 12, 5), api.OK},
		{"nothing at all", wineOf(1), wineOf(1), wineOf(1), api.OK},
		{"to lowest terms", wineOf(2, 1, 1, 2, 1), wineOf(2, 1, 1, 2, 1), wineOf(1, 1, 1, 2, 1), api.OK},
		{"by a common denominator", wineOf(6, 1, 1, 2, 5), wineOf(4, 2, 1, 3, 3), wineOf(12, 1, 2, 2, 13, 3, 9), api.OK},
		{"sources of both", wineOf(1, 3, 1, 7, 2), wineOf(1, 1, 4, 5, 8, 9, 16), wineOf(1, 1, 4, 3, 1, 5, 8, 7, 2, 9, 16), api.OK},
		{"to a small denominator by great ones", wineOf(999999999989, 1, 1, 2, 999999999988), wineOf(999999999989, 1, 999999999988, 2, 1), wineOf(1, 1, 1, 2, 1), api.OK},
		{"to a denominator that is too large", wineOf(999999999989, 1, 1, 2, 999999999988), wineOf(2, 1, 1, 2, 1), wineOf(0), api.ErrLarge},
		{"to a denominator that no int holds", wineOf(999999999989, 1, 1, 2, 999999999988), wineOf(999999999961, 1, 1, 2, 999999999960), wineOf(0), api.ErrLarge},
		{"to an amount that is too large", odd, wineOf(api.MaxScaleDen/2, 1, api.MaxScaleAmount/2, 2, 1), wineOf(0), api.ErrLarge},
		{"to the half of such an amount", odd, odd, wineOf(api.MaxScaleDen/2, 1, api.MaxScaleAmount, 2, 1), api.OK},
		{"to 60 parts", manyOf(0, 30), manyOf(30, 30), manyOf(0, 60), api.OK},
		{"to 61 parts", manyOf(0, 30), manyOf(30, 31), wineOf(0), api.ErrLarge},
		{"to the greatest volume", wineOf(1, 1, 1999999), wineOf(1, 2, 1), wineOf(1, 1, 1999999, 2, 1), api.OK},
		{"to a volume that is too large", wineOf(1, 1, 2000000), wineOf(1, 1, 1), wineOf(0), api.ErrLarge},
		{"a wrong first one", wineOf(0), wineOf(2), wineOf(0), api.ErrRange},
		{"a wrong second one", wineOf(1), wineOf(2), wineOf(0), api.ErrForm},
	} {
		w, e := Mixed(x.a, x.b)
		want(t, x.what, w, e, x.both, x.e)
		if x.e == api.OK || x.e == api.ErrLarge {
			w, e = Mixed(x.b, x.a)
			want(t, x.what+", the other way round", w, e, x.both, x.e)
		}
	}
}

// TestPart: P1.1.
func TestPart(t *testing.T) {
	example := wineOf(4, 10, 3, 12, 5)
	for _, x := range []struct {
		what   string
		w      api.ScaleWine
		volume int
		part   api.ScaleWine
		e      api.Errno
	}{
		{"half", example, 1, wineOf(8, 10, 3, 12, 5), api.OK},
		{"all", example, 2, example, api.OK},
		{"nothing", example, 0, wineOf(1), api.OK},
		{"nothing of nothing", wineOf(1), 0, wineOf(1), api.OK},
		{"to lowest terms", wineOf(1, 3, 40, 5, 60), 25, wineOf(1, 3, 10, 5, 15), api.OK},
		{"too much", example, 3, wineOf(0), api.ErrRange},
		{"too much of nothing", wineOf(1), 1, wineOf(0), api.ErrRange},
		{"less than nothing", example, -1, wineOf(0), api.ErrRange},
		{"of a wrong wine", wineOf(2), -1, wineOf(0), api.ErrForm},
		{"to the greatest denominator", wineOf(api.MaxScaleDen/2, 1, 1, 2, api.MaxScaleDen-1), 1, wineOf(api.MaxScaleDen, 1, 1, 2, api.MaxScaleDen-1), api.OK},
		{"to a denominator that is too large", wineOf(999999999989, 1, 1, 2, 2*999999999989-1), 1, wineOf(0), api.ErrLarge},
		{"of great amounts", wineOf(api.MaxScaleDen, 1, api.MaxScaleAmount, 2, 1), 999999, wineOf(0), api.ErrLarge},
	} {
		w, e := Part(x.w, x.volume)
		want(t, x.what, w, e, x.part, x.e)
	}
}

// TestWinesShareNoMemory: R3.
func TestWinesShareNoMemory(t *testing.T) {
	a, b := wineOf(4, 10, 3, 12, 5), wineOf(1)
	mixed, _ := Mixed(a, b)
	part, _ := Part(a, 2)
	for _, w := range []api.ScaleWine{mixed, part} {
		w.Parts[0] = api.ScalePart{Source: 1, Amount: 1}
		_ = append(w.Parts[:1], api.ScalePart{Source: 2, Amount: 2})
	}
	want(t, "the argument", a, 0, wineOf(4, 10, 3, 12, 5), 0)
}
