package gauge

import (
	"fmt"
	"math"
	"slices"
	"testing"

	"criadera/api"
)

// TestCheckCask: P4.1.
func TestCheckCask(t *testing.T) {
	twelve := api.GaugeCask{Name: "a", Bung: api.MaxGaugeRadius}
	for n := range api.MaxGaugeStations {
		twelve.Stations = append(twelve.Stations, api.GaugeStation{At: n, Inner: api.LeastGaugeRadius, Outer: api.MaxGaugeRadius})
	}
	for _, c := range []api.GaugeCask{cylinder(100, 1000), cylinder(10, 1), cylinder(800, 3000), barrel(), twelve, caskWith(50, 2999, 10, 50, 3000, 50, 50)} {
		n, e := CheckCask(c)
		want(t, fmt.Sprint(c), n, e, 0, api.OK)
	}
	for _, x := range []struct {
		what string
		c    api.GaugeCask
		n    int
		e    api.Errno
	}{
		{"nothing at all", api.GaugeCask{}, 0, api.ErrName},
		{"a radius ahead of the stations", caskWith(9), 0, api.ErrRange},
		{"a radius that is too great", caskWith(801, 0, 10, 10, 1, 10, 10), 0, api.ErrRange},
		{"a radius below all", caskWith(math.MinInt, 0, 10, 10, 1, 10, 10), 0, api.ErrRange},
		{"no stations", caskWith(100), 0, api.ErrShape},
		{"one station, a wrong one", caskWith(100, -1, 10, 10), 0, api.ErrShape},
		{"thirteen stations, wrong ones", caskWith(100, make([]int, 39)...), 0, api.ErrLarge},
		{"a first station below 0", caskWith(100, -1, 10, 10, 1, 0, 0), 0, api.ErrRange},
		{"a station beyond all", caskWith(100, 0, 10, 10, 3001, 10, 10), 1, api.ErrRange},
		{"a radius within that is too small", caskWith(100, 0, 10, 10, 1, 9, 10), 1, api.ErrRange},
		{"a radius within that is too great", caskWith(100, 0, 101, 100, 1, 9, 10), 0, api.ErrRange},
		{"a radius without that is too small", caskWith(100, 0, 10, 10, 1, 10, 9), 1, api.ErrRange},
		{"a radius without that is too great", caskWith(100, 0, 10, 10, 1, 10, 10, 2, 10, 101), 2, api.ErrRange},
		{"radii in the wrong order", caskWith(100, 0, 10, 10, 1, 51, 50, 1, 10, 10), 1, api.ErrOrder},
		{"radii in the wrong order at first", caskWith(100, 5, 51, 50, -1, 10, 10), 0, api.ErrOrder},
		{"two stations in one place", caskWith(100, 7, 10, 10, 7, 10, 10), 1, api.ErrOrder},
		{"stations in the wrong order", caskWith(100, 0, 10, 10, 7, 10, 10, 6, 10, 10, -1, 10, 10), 2, api.ErrOrder},
		{"a range ahead of an order", caskWith(100, 7, 10, 10, 6, 10, 101), 1, api.ErrRange},
	} {
		n, e := CheckCask(x.c)
		want(t, x.what, n, e, x.n, x.e)
	}
	for _, name := range wrongNames() {
		c := caskWith(9)
		c.Name = name
		n, e := CheckCask(c)
		want(t, name, n, e, 0, api.ErrName)
	}
}

// TestAreaTo: P4.1.
func TestAreaTo(t *testing.T) {
	for _, x := range []struct {
		radius, level int
		area          api.Range
		e             api.Errno
	}{
		{10, -10, from(0, 0), api.OK},
		{10, -9, from(0, 9), api.OK},
		{10, -8, from(8, 21), api.OK},
		{10, -7, from(20, 36), api.OK},
		{10, -6, from(34, 52), api.OK},
		{10, 0, from(142, 169), api.OK},
		{10, 10, from(284, 338), api.OK},
		{800, -800, from(0, 0), api.OK},
		{800, -799, from(0, 80), api.OK},
		{9, 0, api.Range{}, api.ErrRange},
		{801, 0, api.Range{}, api.ErrRange},
		{math.MinInt, math.MinInt, api.Range{}, api.ErrRange},
		{math.MaxInt, 0, api.Range{}, api.ErrRange},
		{10, 11, api.Range{}, api.ErrRange},
		{10, -11, api.Range{}, api.ErrRange},
		{10, math.MinInt, api.Range{}, api.ErrRange},
		{10, math.MaxInt, api.Range{}, api.ErrRange},
	} {
		r, e := AreaTo(x.radius, x.level)
		want(t, fmt.Sprint(x.radius, " up to ", x.level), r, e, x.area, x.e)
	}
}

// TestVolumeTo: P4.2.
func TestVolumeTo(t *testing.T) {
	narrow := caskWith(100, 0, 10, 10, 1000, 10, 10) // its wine lies from the dip 90 to the dip 110
	for _, x := range []struct {
		what   string
		c      api.GaugeCask
		dip    int
		volume api.Range
		e      api.Errno
	}{
		{"nothing", cylinder(100, 1000), 0, from(0, 0), api.OK},
		{"the lowest slice", cylinder(100, 1000), 1, from(0, 1), api.OK},
		{"an empty slice", narrow, 90, from(0, 0), api.OK},
		{"no level that any wine has", narrow, 5, from(0, 0), api.OK},
		{"a slice, told by one rounding", narrow, 94, from(0, 1), api.OK},
		{"half of it", narrow, 100, from(1, 2), api.OK},
		{"a full slice", narrow, 110, from(2, 4), api.OK},
		{"more than a full slice", narrow, 200, from(2, 4), api.OK},
		{"no wine beyond the stations", caskWith(10, 2000, 10, 10, 3000, 10, 10), 20, from(2, 4), api.OK},
		{"the narrowest and the widest radius", caskWith(20, 0, 10, 10, 1000, 20, 20), 40, from(2, 14), api.OK},
		{"in the other direction", caskWith(20, 0, 20, 20, 1000, 10, 10), 40, from(2, 14), api.OK},
		{"one rounding for many slices", caskWith(10, 0, 10, 10, 250, 10, 10, 500, 10, 10, 750, 10, 10, 1000, 10, 10), 20, from(2, 4), api.OK},
		{"a least volume that comes out whole", cylinder(10, 400), 16, from(1, 2), api.OK},
		{"a greatest volume that comes out whole", cylinder(13, 200), 22, from(0, 1), api.OK},
		{"a dip below 0", narrow, -1, api.Range{}, api.ErrRange},
		{"a dip of more than the cask", narrow, 201, api.Range{}, api.ErrRange},
		{"the least dip", narrow, math.MinInt, api.Range{}, api.ErrRange},
		{"the greatest dip", narrow, math.MaxInt, api.Range{}, api.ErrRange},
	} {
		r, e := VolumeTo(x.c, x.dip)
		want(t, x.what, r, e, x.volume, x.e)
	}
	r, e := VolumeOf(caskWith(20, 0, 10, 10, 1000, 20, 20))
	want(t, "the whole", r, e, from(2, 14), api.OK)
}

// TestDipOf: P4.2.
func TestDipOf(t *testing.T) {
	small := cylinder(10, 1000)
	for _, x := range []struct {
		what   string
		c      api.GaugeCask
		volume int
		dips   api.Range
		e      api.Errno
	}{
		{"nothing", small, 0, from(0, 7), api.OK},
		{"1", small, 1, from(1, 13), api.OK},
		{"a volume that the whole cask may have", small, 3, from(12, 20), api.OK},
		{"the most of the whole cask", small, 4, from(17, 20), api.OK},
		{"more than the whole cask", small, 5, api.Range{}, api.ErrNone},
		{"all there may be", small, api.MaxVolume, api.Range{}, api.ErrNone},
		{"nothing in a cask with narrow ends", caskWith(100, 0, 10, 10, 1000, 10, 10), 0, from(0, 97), api.OK},
		{"a volume that all dips from one on may have", caskWith(100, 0, 10, 10, 1000, 10, 10), 3, from(102, 200), api.OK},
		{"below 0", small, -1, api.Range{}, api.ErrRange},
		{"more than there may be", small, api.MaxVolume + 1, api.Range{}, api.ErrRange},
	} {
		r, e := DipOf(x.c, x.volume)
		want(t, x.what, r, e, x.dips, x.e)
	}
}

// TestTableOf: P4.2.
func TestTableOf(t *testing.T) {
	row := func(dip, lo, hi int) api.GaugeRow { return api.GaugeRow{Dip: dip, Volume: from(lo, hi)} }
	rows, e := TableOf(cylinder(10, 1000), 10)
	want(t, "a step that divides the whole", rows, e, []api.GaugeRow{row(0, 0, 0), row(10, 1, 2), row(20, 2, 4)}, api.OK)
	rows, e = TableOf(cylinder(10, 1000), 11)
	want(t, "a step that does not", rows, e, []api.GaugeRow{row(0, 0, 0), row(11, 1, 2)}, api.OK)
	rows, e = TableOf(cylinder(10, 1000), api.MaxGaugeRadius)
	want(t, "a step beyond the cask", rows, e, []api.GaugeRow{row(0, 0, 0)}, api.OK)
	rows, e = TableOf(barrel(), 10)
	want(t, "a row for each dip", len(rows), e, 21, api.OK)
	for n, row := range rows {
		r, e := VolumeTo(barrel(), 10*n)
		want(t, "a row", row, 0, api.GaugeRow{Dip: 10 * n, Volume: r}, e)
	}
	for _, step := range outside(10, api.MaxGaugeRadius) {
		rows, e = TableOf(barrel(), step)
		refused(t, fmt.Sprint("the step ", step), rows, e, api.ErrRange)
	}
}

// TestFromDip: P4.2.
func TestFromDip(t *testing.T) {
	deepest := 2 * barrel().Bung
	volume := func(least, greatest int) api.Range {
		lo, _ := VolumeTo(barrel(), least)
		hi, _ := VolumeTo(barrel(), greatest)
		return from(lo.Lo, hi.Hi)
	}
	for _, x := range []struct {
		day, dip, wrong int
		volume          api.Range
	}{
		{7, 100, 0, volume(100, 100)},
		{0, 100, 5, volume(95, 105)},
		{api.MaxDate, 10, 20, volume(0, 30)},
		{7, 190, 20, volume(170, deepest)},
		{7, 0, 0, volume(0, 0)},
		{7, deepest, deepest, volume(0, deepest)},
	} {
		g, e := FromDip(barrel(), api.GaugeDip{Day: x.day, Dip: x.dip, Wrong: x.wrong})
		want(t, fmt.Sprint(x), g, e, api.GaugeReading{Cask: "butt", Day: x.day, Volume: x.volume}, api.OK)
	}
	var wrong []api.GaugeDip
	for _, day := range outside(0, api.MaxDate) {
		wrong = append(wrong, api.GaugeDip{Day: day})
	}
	for _, dip := range outside(0, deepest) {
		wrong = append(wrong, api.GaugeDip{Dip: dip}, api.GaugeDip{Wrong: dip})
	}
	for _, x := range wrong {
		g, e := FromDip(barrel(), x)
		refused(t, fmt.Sprint(x), g, e, api.ErrRange)
	}
}

// TestGreatestCask: what the greatest cask there may be holds is a volume, and a gauging.
func TestGreatestCask(t *testing.T) {
	c := cylinder(api.MaxGaugeRadius, api.MaxGaugeLength)
	whole, e := VolumeOf(c)
	want(t, "no error", 0, e, 0, api.OK)
	if whole.Lo > 60318 || whole.Hi < 60319 || whole.Hi > api.MaxVolume {
		t.Errorf("the greatest cask holds %v", whole)
	}
	g, e := FromDip(c, api.GaugeDip{Dip: 1600, Wrong: 1600})
	want(t, "its gauging", g, e, gauged("butt", 0, 0, whole.Hi), api.OK)
}

// TestWrongCasks: every function tells the error of its cask first, whatever is wrong behind it (P4.2).
func TestWrongCasks(t *testing.T) {
	for e, c := range map[api.Errno]api.GaugeCask{
		api.ErrName:  {Bung: 9},
		api.ErrRange: caskWith(100, 0, 10, 10, 1, 101, 10),
		api.ErrShape: caskWith(100, 0, 10, 10),
		api.ErrLarge: caskWith(100, make([]int, 39)...),
		api.ErrOrder: caskWith(100, 0, 10, 10, 1, 51, 50),
	} {
		r, f := VolumeTo(c, -1)
		refused(t, "VolumeTo", r, f, e)
		r, f = VolumeOf(c)
		refused(t, "VolumeOf", r, f, e)
		r, f = DipOf(c, -1)
		refused(t, "DipOf", r, f, e)
		rows, f := TableOf(c, -1)
		refused(t, "TableOf", rows, f, e)
		g, f := FromDip(c, api.GaugeDip{Day: -1})
		refused(t, "FromDip", g, f, e)
	}
}

// TestCaskStays: R3.
func TestCaskStays(t *testing.T) {
	c := barrel()
	stations := slices.Clone(c.Stations)
	CheckCask(c)
	VolumeTo(c, 70)
	DipOf(c, 70)
	FromDip(c, api.GaugeDip{Dip: 70})
	rows, _ := TableOf(c, 10)
	rows[0].Dip = 7
	want(t, "the stations", c.Stations, 0, stations, 0)
	again, _ := TableOf(c, 10)
	want(t, "another table", again[0].Dip, 0, 0, 0)
}
