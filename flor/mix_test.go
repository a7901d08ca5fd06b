package flor

import (
	"math"
	"slices"
	"testing"

	"criadera/api"
)

// TestDrawn: P3.3.
func TestDrawn(t *testing.T) {
	w := wineOf(980, 990, 1469, 1600, 202, 205)
	for _, x := range []struct {
		what   string
		volume api.Range
		out    api.FlorWine
		e      api.Errno
	}{
		{"the chapter's example", from(100, 110), wineOf(870, 890, 1469, 1600, 202, 205), api.OK},
		{"nothing", from(0, 0), w, api.OK},
		{"all that is surely there", from(980, 980), wineOf(0, 10, 1469, 1600, 202, 205), api.OK},
		{"perhaps all of it", from(0, 980), wineOf(0, 990, 1469, 1600, 202, 205), api.OK},
		{"perhaps more than is surely there", from(0, 981), api.FlorWine{}, api.ErrBreak},
		{"more than is there", from(api.MaxVolume, api.MaxVolume), api.FlorWine{}, api.ErrBreak},
	} {
		got, e := Drawn(w, x.volume)
		want(t, x.what, got, e, x.out, x.e)
	}
	for _, x := range wrongRanges(api.MaxVolume) {
		got, e := Drawn(api.FlorWine{}, x.r)
		refused(t, "a wrong volume", got, e, x.e)
	}
}

// TestMixed: P3.3.
func TestMixed(t *testing.T) {
	weak, strong := wineOf(100, 200, 1000, 1000, 0, 0), wineOf(100, 100, 1600, 1600, 0, 0)
	maybe, other := wineOf(0, 100, 1000, 1100, 30, 30), wineOf(0, 7, 1600, 1700, 10, 20)
	none := wineOf(0, 0, 0, 10000, 0, 100000)
	for _, x := range []struct {
		what string
		l    []api.FlorWine
		out  api.FlorWine
		e    api.Errno
	}{
		{"the chapter's example", []api.FlorWine{weak, strong}, wineOf(200, 300, 1200, 1300, 0, 0), api.OK},
		{"in the other order", []api.FlorWine{strong, weak}, wineOf(200, 300, 1200, 1300, 0, 0), api.OK},
		{"one wine", []api.FlorWine{fino}, fino, api.OK},
		{"one wine that may be none", []api.FlorWine{maybe}, maybe, api.OK},
		{"two wines that may be none", []api.FlorWine{maybe, other}, wineOf(0, 107, 1000, 1700, 10, 30), api.OK},
		{"beside no wine", []api.FlorWine{none, fino, none}, fino, api.OK},
		{"a wine that may be none beside no wine", []api.FlorWine{maybe, none}, maybe, api.OK},
		{"two wines with both ends", []api.FlorWine{wineOf(1, 2, 100, 200, 7, 7), wineOf(3, 4, 300, 400, 0, 2)}, wineOf(4, 6, 220, 360, 1, 4), api.OK},
		{"a decilitre that may be none", []api.FlorWine{wineOf(0, 1, 5, 6, 7, 8), none}, wineOf(0, 1, 5, 6, 7, 8), api.OK},
		{"as many wines as may be", slices.Repeat([]api.FlorWine{weak}, 8), wineOf(800, 1600, 1000, 1000, 0, 0), api.OK},
		{"as much as may be", []api.FlorWine{wineOf(0, 99999, 10000, 10000, 100000, 100000), wineOf(1, 1, 0, 0, 0, 0)}, wineOf(1, 100000, 0, 10000, 0, 99999), api.OK},
		{"no wines", nil, api.FlorWine{}, api.ErrShape},
		{"a wine more", append(slices.Repeat([]api.FlorWine{weak}, 8), wineOf(-1, 0, 0, 0, 0, 0)), api.FlorWine{}, api.ErrLarge},
		{"a first wrong wine", []api.FlorWine{weak, wineOf(0, 0, 2, 1, 0, 0), wineOf(-1, 0, 0, 0, 0, 0)}, api.FlorWine{}, api.ErrOrder},
		{"a wrong wine behind no wine", []api.FlorWine{none, wineOf(0, 0, 2, 1, 0, 0)}, api.FlorWine{}, api.ErrOrder},
		{"a wrong wine behind too much", []api.FlorWine{wineOf(0, 100000, 0, 0, 0, 0), weak, wineOf(0, 0, 0, 0, 2, 1)}, api.FlorWine{}, api.ErrOrder},
		{"no wine at all", []api.FlorWine{none, none}, api.FlorWine{}, api.ErrEmpty},
		{"perhaps too much", []api.FlorWine{wineOf(0, 99999, 0, 0, 0, 0), wineOf(0, 2, 0, 0, 0, 0)}, api.FlorWine{}, api.ErrLarge},
	} {
		before := slices.Clone(x.l)
		got, e := Mixed(x.l)
		want(t, x.what, got, e, x.out, x.e)
		want(t, "the argument of "+x.what, x.l, 0, before, 0)
	}
}

// TestFortified: P3.4.
func TestFortified(t *testing.T) {
	w := wineOf(900, 900, 1500, 1500, 0, 0)
	for _, x := range []struct {
		what   string
		w      api.FlorWine
		spirit api.FlorSpirit
		out    api.FlorWine
		e      api.Errno
	}{
		{"the chapter's example", w, api.FlorSpirit{Volume: 100, Strength: 9500}, wineOf(1000, 1000, 2300, 2300, 0, 0), api.OK},
		{"with sugar", wineOf(900, 950, 1500, 1600, 100, 200), api.FlorSpirit{Volume: 100, Strength: 9500}, wineOf(1000, 1050, 2261, 2390, 90, 181), api.OK},
		{"no spirit", fino, api.FlorSpirit{Strength: 9500}, fino, api.OK},
		{"water", w, api.FlorSpirit{Volume: 900}, wineOf(1800, 1800, 750, 750, 0, 0), api.OK},
		{"an empty cask", wineOf(0, 0, 1500, 1500, 9, 9), api.FlorSpirit{Volume: 9, Strength: 9500}, wineOf(9, 9, 9500, 9500, 0, 0), api.OK},
		{"up to the greatest volume", w, api.FlorSpirit{Volume: api.MaxVolume - 900, Strength: api.MaxStrength}, wineOf(100000, 100000, 9923, 9924, 0, 0), api.OK},
		{"a volume below 0", w, api.FlorSpirit{Volume: -1, Strength: -1}, api.FlorWine{}, api.ErrRange},
		{"a volume above all", w, api.FlorSpirit{Volume: api.MaxVolume + 1}, api.FlorWine{}, api.ErrRange},
		{"the greatest volume", w, api.FlorSpirit{Volume: math.MaxInt, Strength: math.MaxInt}, api.FlorWine{}, api.ErrRange},
		{"a strength below 0", w, api.FlorSpirit{Volume: api.MaxVolume, Strength: -1}, api.FlorWine{}, api.ErrRange},
		{"a strength above all", wineOf(0, 0, 0, 0, 0, 0), api.FlorSpirit{Strength: api.MaxStrength + 1}, api.FlorWine{}, api.ErrRange},
		{"nothing at all", wineOf(0, 0, 1500, 1500, 0, 0), api.FlorSpirit{Strength: 9500}, api.FlorWine{}, api.ErrEmpty},
		{"too much together", w, api.FlorSpirit{Volume: api.MaxVolume - 899, Strength: 9500}, api.FlorWine{}, api.ErrLarge},
	} {
		got, e := Fortified(x.w, x.spirit)
		want(t, x.what, got, e, x.out, x.e)
	}
}

// TestSpiritFor: P3.4.
func TestSpiritFor(t *testing.T) {
	w := wineOf(900, 900, 1500, 1500, 0, 0)
	for _, x := range []struct {
		what             string
		w                api.FlorWine
		strength, target int
		out              api.Range
		e                api.Errno
	}{
		{"the chapter's example", w, 9500, 1700, from(24, 24), api.OK},
		{"both ends", wineOf(900, 950, 1500, 1600, 0, 0), 9500, 1700, from(12, 25), api.OK},
		{"a number that comes out whole", wineOf(780, 780, 1500, 1500, 0, 0), 9500, 1700, from(20, 20), api.OK},
		{"a wine that has the target", w, 9500, 1500, from(0, 0), api.OK},
		{"a wine that has more", w, 9500, 0, from(0, 0), api.OK},
		{"a wine that may have the target", wineOf(900, 900, 1499, 1500, 0, 0), 9500, 1500, from(0, 1), api.OK},
		{"a wine that may have more", wineOf(900, 900, 1000, 2000, 0, 0), 9500, 1500, from(0, 57), api.OK},
		{"a wine that may be none", wineOf(0, 900, 1500, 1500, 0, 0), 9500, 1700, from(0, 24), api.OK},
		{"no wine", wineOf(0, 0, 0, 0, 0, 0), 9500, 9499, from(0, 0), api.OK},
		{"as much as may be", wineOf(1, 100000, 0, 0, 0, 0), 10000, 5000, from(1, 100000), api.OK},
		{"too much", wineOf(1, 99999, 0, 0, 0, 0), 10000, 5001, api.Range{}, api.ErrLarge},
		{"spirit of just the target", w, 1700, 1700, api.Range{}, api.ErrZero},
		{"spirit that is weaker, of a wine that has the target", w, 0, 1, api.Range{}, api.ErrZero},
		{"the strength 0 for the target 0", w, 0, 0, api.Range{}, api.ErrZero},
		{"a strength above all", w, api.MaxStrength + 1, 0, api.Range{}, api.ErrRange},
		{"a strength below 0", w, -1, 0, api.Range{}, api.ErrRange},
		{"a target above all", w, 0, api.MaxStrength + 1, api.Range{}, api.ErrRange},
		{"a target below 0", w, 5, math.MinInt, api.Range{}, api.ErrRange},
	} {
		got, e := SpiritFor(x.w, x.strength, x.target)
		want(t, x.what, got, e, x.out, x.e)
	}
}
