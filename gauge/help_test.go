package gauge

import (
	"fmt"
	"math"
	"slices"
	"testing"

	"criadera/api"
)

// want compares a value and an error. A nil list and an empty one are printed alike.
func want[T any](t *testing.T, what string, got T, e api.Errno, value T, f api.Errno) {
	t.Helper()
	if fmt.Sprintf("%+v", got) != fmt.Sprintf("%+v", value) || e != f {
		t.Errorf("%s: %+v, %d, want %+v, %d", what, got, e, value, f)
	}
}

// refused asks for an error, and for nothing beside it.
func refused[T any](t *testing.T, what string, got T, e api.Errno, f api.Errno) {
	t.Helper()
	var none T
	want(t, what, got, e, none, f)
}

// from is a range.
func from(lo, hi int) api.Range { return api.Range{Lo: lo, Hi: hi} }

// caskWith is a cask with stations, each of three numbers.
func caskWith(bung int, l ...int) api.GaugeCask {
	c := api.GaugeCask{Name: "butt", Bung: bung}
	for n := 0; n < len(l); n += 3 {
		c.Stations = append(c.Stations, api.GaugeStation{At: l[n], Inner: l[n+1], Outer: l[n+2]})
	}
	return c
}

// cylinder is a cask with a length, all radii of which are the same.
func cylinder(radius, length int) api.GaugeCask {
	return caskWith(radius, 0, radius, radius, length, radius, radius)
}

// barrel is a cask of three stations, the first one not at 0.
func barrel() api.GaugeCask { return caskWith(100, 100, 60, 70, 600, 90, 100, 1100, 65, 75) }

// gauged is a gauging, moved a move.
func gauged(cask string, day, lo, hi int) api.GaugeReading {
	return api.GaugeReading{Cask: cask, Day: day, Volume: from(lo, hi)}
}

func moved(day int, from, to string, volume int) api.GaugeMove {
	return api.GaugeMove{Day: day, From: from, To: to, Volume: volume}
}

// rightBook is the book of the chapter's examples.
func rightBook() api.GaugeBook {
	return api.GaugeBook{
		Loss:     from(1000, 2000),
		Readings: []api.GaugeReading{gauged("butt", 0, 500, 500), gauged("butt", 10, 480, 480)},
		Moves:    []api.GaugeMove{moved(5, "butt", "", 5)},
	}
}

// clashingBook is the book of the chapter's fourth example: the first gauging contradicts the two others.
func clashingBook() api.GaugeBook {
	b := rightBook()
	b.Readings[1].Volume = from(470, 470)
	b.Readings = append(b.Readings, gauged("butt", 12, 460, 470))
	return b
}

// noted is a book without losses, with gaugings of a cask on days that follow one another, each one of a volume.
func noted(volumes ...int) api.GaugeBook {
	var b api.GaugeBook
	for day, volume := range volumes {
		b.Readings = append(b.Readings, gauged("butt", day, volume, volume))
	}
	return b
}

// copied is a book that shares no memory with another one.
func copied(b api.GaugeBook) api.GaugeBook {
	return api.GaugeBook{Loss: b.Loss, Readings: slices.Clone(b.Readings), Moves: slices.Clone(b.Moves)}
}

// outside is numbers that are not from least to most.
func outside(least, most int) []int {
	return []int{least - 1, most + 1, math.MinInt, math.MaxInt}
}

// wrongNames is texts that are no names; "" is one of them.
func wrongNames() []string { return []string{"", "9a", "abcdefghijklm", "a b", "ä", "a_"} }

// A wrongRange has an error.
type wrongRange struct {
	r api.Range
	e api.Errno
}

// wrongRanges is ranges with errors, some of them with several, of a greatest number.
func wrongRanges(most int) []wrongRange {
	return []wrongRange{
		{from(-1, 1), api.ErrRange},
		{from(1, -1), api.ErrRange},
		{from(0, most+1), api.ErrRange},
		{from(most+1, most), api.ErrRange},
		{from(math.MinInt, math.MaxInt), api.ErrRange},
		{from(math.MaxInt, math.MinInt), api.ErrRange},
		{from(1, 0), api.ErrOrder},
		{from(most, most-1), api.ErrOrder},
	}
}
