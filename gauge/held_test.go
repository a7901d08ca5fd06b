package gauge

import (
	"fmt"
	"math"
	"testing"

	"criadera/api"
)

// TestExpectedAt: P4.4.
func TestExpectedAt(t *testing.T) {
	finer := api.GaugeBook{
		Loss:     from(1, 999),
		Readings: []api.GaugeReading{gauged("a", 5, 10, 20), gauged("b", 5, 7, 7)},
		Moves:    []api.GaugeMove{moved(4, "", "a", 1), moved(5, "", "a", 100), moved(6, "a", "b", 3), moved(6, "c", "a", 50)},
	}
	for _, x := range []struct {
		what         string
		b            api.GaugeBook
		reading, day int
		out          api.Range
	}{
		{"its own day", rightBook(), 0, 0, from(500, 500)},
		{"a day behind it", rightBook(), 0, 1, from(498, 499)},
		{"the day of a move", rightBook(), 0, 5, from(485, 490)},
		{"behind a move", rightBook(), 0, 10, from(475, 485)},
		{"ahead of it", rightBook(), 1, 9, from(481, 482)},
		{"behind a move, ahead of it", rightBook(), 1, 5, from(485, 490)},
		{"ahead of a move", rightBook(), 1, 4, from(491, 497)},
		{"the first day", rightBook(), 1, 0, from(495, 505)},
		{"parts of a decilitre, a day later", finer, 1, 6, from(9, 10)},
		{"parts of a decilitre, two days later", finer, 0, 7, from(55, 67)},
		{"its own day, behind moves", finer, 0, 5, from(10, 20)},
		{"a day ahead of its moves", finer, 0, 4, from(-90, -79)},
		{"two days ahead", finer, 0, 3, from(-91, -79)},
		{"three days ahead of a cask without moves", finer, 1, 2, from(7, 10)},
		{"below nothing", api.GaugeBook{Loss: from(0, api.MaxGaugeLoss), Readings: []api.GaugeReading{gauged("a", 0, 0, 0)}}, 0, api.MaxDate, from(-api.MaxDate*100, 0)},
		{"beyond what a cask may have", api.GaugeBook{Loss: from(0, api.MaxGaugeLoss), Readings: []api.GaugeReading{gauged("a", api.MaxDate, 100000, 100000)}}, 0, 0, from(100000, 100000+api.MaxDate*100)},
	} {
		r, e := ExpectedAt(x.b, x.reading, x.day)
		want(t, x.what, r, e, x.out, api.OK)
	}
	for _, reading := range []int{-1, 2, math.MinInt, math.MaxInt} {
		r, e := ExpectedAt(rightBook(), reading, -1)
		refused(t, fmt.Sprint("the gauging ", reading), r, e, api.ErrMissing)
	}
	for _, day := range outside(0, api.MaxDate) {
		r, e := ExpectedAt(rightBook(), 1, day)
		refused(t, fmt.Sprint("the day ", day), r, e, api.ErrRange)
	}
}

// twoCasks is a book of two casks, a third one that is moved from alone, and a fourth one whose gaugings contradict if it is asked for.
func twoCasks(isClashing bool) api.GaugeBook {
	b := api.GaugeBook{
		Loss:     from(100, 300),
		Readings: []api.GaugeReading{gauged("a", 2, 50, 60), gauged("b", 3, 200, 200), gauged("a", 7, 71, 90)},
		Moves:    []api.GaugeMove{moved(4, "b", "a", 20), moved(5, "c", "a", 5)},
	}
	if isClashing {
		b.Readings = append(b.Readings, gauged("d", 7, 1, 2), gauged("d", 7, 3, 4))
	}
	return b
}

// TestVolumeAt: P4.4.
func TestVolumeAt(t *testing.T) {
	for _, x := range []struct {
		what string
		b    api.GaugeBook
		cask string
		day  int
		out  api.Range
		e    api.Errno
	}{
		{"the chapter's example", rightBook(), "butt", 5, from(485, 490), api.OK},
		{"ahead of a move", rightBook(), "butt", 4, from(492, 496), api.OK},
		{"the day of a gauging", rightBook(), "butt", 10, from(480, 480), api.OK},
		{"behind all gaugings", rightBook(), "butt", 12, from(476, 478), api.OK},
		{"a cask of two gaugings", twoCasks(false), "a", 7, from(73, 85), api.OK},
		{"ahead of all gaugings", twoCasks(false), "a", 0, from(50, 61), api.OK},
		{"a cask of one gauging", twoCasks(false), "b", 4, from(179, 180), api.OK},
		{"a cask beside one with a contradiction", twoCasks(true), "a", 7, from(73, 85), api.OK},
		{"a contradiction", clashingBook(), "butt", 0, api.Range{}, api.ErrClash},
		{"a contradiction of one day", twoCasks(true), "d", 0, api.Range{}, api.ErrClash},
		{"a contradiction, a day on which all allow the same", clashingBook(), "butt", 1000, api.Range{}, api.ErrClash},
		{"a cask with moves and no gauging", twoCasks(true), "c", 0, api.Range{}, api.ErrNone},
		{"a cask that is not there", clashingBook(), "none", 0, api.Range{}, api.ErrNone},
		{"no gaugings", api.GaugeBook{}, "a", 0, api.Range{}, api.ErrNone},
	} {
		r, e := VolumeAt(x.b, x.cask, x.day)
		want(t, x.what, r, e, x.out, x.e)
	}
	for _, name := range wrongNames() {
		r, e := VolumeAt(rightBook(), name, -1)
		refused(t, fmt.Sprintf("the cask %q", name), r, e, api.ErrName)
	}
	for _, day := range outside(0, api.MaxDate) {
		r, e := VolumeAt(rightBook(), "none", day)
		refused(t, fmt.Sprint("the day ", day), r, e, api.ErrRange)
	}
}

// TestTotalAt: P4.4.
func TestTotalAt(t *testing.T) {
	for _, x := range []struct {
		what string
		b    api.GaugeBook
		day  int
		out  api.Range
		e    api.Errno
	}{
		{"one cask", rightBook(), 4, from(492, 496), api.OK},
		{"two casks, each one told by itself", twoCasks(false), 7, from(73+178, 85+180), api.OK},
		{"the first day", twoCasks(false), 0, from(50+200, 61+201), api.OK},
		{"one gauging", bookWith(gauged("a", 3, 7, 9)), 3, from(7, 9), api.OK},
		{"a contradiction", clashingBook(), 0, api.Range{}, api.ErrClash},
		{"a contradiction of one cask", twoCasks(true), 7, api.Range{}, api.ErrClash},
		{"a contradiction, a day on which all allow the same", clashingBook(), 1000, api.Range{}, api.ErrClash},
		{"no gaugings", api.GaugeBook{Moves: rightBook().Moves}, 7, api.Range{}, api.ErrNone},
	} {
		r, e := TotalAt(x.b, x.day)
		want(t, x.what, r, e, x.out, x.e)
	}
	for _, day := range outside(0, api.MaxDate) {
		r, e := TotalAt(api.GaugeBook{}, day)
		refused(t, fmt.Sprint("the day ", day), r, e, api.ErrRange)
	}
}
