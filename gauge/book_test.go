package gauge

import (
	"fmt"
	"slices"
	"testing"

	"criadera/api"
)

// bookWith is a book of gaugings alone.
func bookWith(l ...api.GaugeReading) api.GaugeBook { return api.GaugeBook{Readings: l} }

// bookMoving is a book of moves alone.
func bookMoving(l ...api.GaugeMove) api.GaugeBook { return api.GaugeBook{Moves: l} }

// TestCheckBook: P4.3.
func TestCheckBook(t *testing.T) {
	full := api.GaugeBook{
		Loss:     from(0, api.MaxGaugeLoss),
		Readings: slices.Repeat([]api.GaugeReading{gauged("a", api.MaxDate, 0, api.MaxVolume)}, api.MaxGaugeReadings),
		Moves:    slices.Repeat([]api.GaugeMove{moved(api.MaxDate, "", "a", api.MaxVolume)}, api.MaxGaugeMoves),
	}
	for _, b := range []api.GaugeBook{
		{}, rightBook(), clashingBook(), full, {Loss: from(api.MaxGaugeLoss, api.MaxGaugeLoss)},
		bookWith(gauged("b", 0, 0, 0), gauged("a", 0, api.MaxVolume, api.MaxVolume), gauged("b", 1, 5, 6)),
		bookMoving(moved(0, "a", "", 0), moved(0, "", "a", 7), moved(3, "a", "b", 7)),
	} {
		m, e := CheckBook(b)
		want(t, fmt.Sprint(b), m, e, api.GaugeMark{}, api.OK)
	}
	for _, x := range wrongRanges(api.MaxGaugeLoss) {
		m, e := CheckBook(api.GaugeBook{Loss: x.r, Readings: make([]api.GaugeReading, 41)})
		want(t, fmt.Sprint("the loss ", x.r), m, e, api.GaugeMark{}, x.e)
	}
	readings := full
	readings.Readings = make([]api.GaugeReading, api.MaxGaugeReadings+1)
	m, e := CheckBook(readings)
	want(t, "too many gaugings, wrong ones", m, e, api.GaugeMark{}, api.ErrLarge)
	moves := api.GaugeBook{Readings: make([]api.GaugeReading, 1), Moves: make([]api.GaugeMove, api.MaxGaugeMoves+1)}
	m, e = CheckBook(moves)
	want(t, "too many moves ahead of a wrong gauging", m, e, api.GaugeMark{}, api.ErrLarge)
	m, e = CheckBook(api.GaugeBook{Readings: []api.GaugeReading{gauged("a", 1, 0, 0), gauged("a", 0, 0, 0)}, Moves: make([]api.GaugeMove, 1)})
	want(t, "gaugings ahead of moves", m, e, api.GaugeMark{List: api.GaugeReadings, Number: 1}, api.ErrOrder)
}

// TestWrongReadings: P4.3.
func TestWrongReadings(t *testing.T) {
	right := gauged("butt", 5, 10, 20)
	type wrong struct {
		x api.GaugeReading
		e api.Errno
	}
	l := []wrong{
		{gauged("butt", 4, 10, 20), api.ErrOrder},
		{gauged("butt", 4, 21, 20), api.ErrOrder},
		{gauged("butt", -1, 21, 20), api.ErrRange},
		{gauged("other", 0, 10, 20), api.ErrOrder},
	}
	for _, name := range wrongNames() {
		l = append(l, wrong{gauged(name, -1, 2, 1), api.ErrName})
	}
	for _, day := range outside(0, api.MaxDate) {
		l = append(l, wrong{gauged("butt", day, 2, 1), api.ErrRange})
	}
	for _, x := range wrongRanges(api.MaxVolume) {
		l = append(l, wrong{gauged("butt", 4, x.r.Lo, x.r.Hi), x.e})
	}
	for _, w := range l {
		m, e := CheckBook(bookWith(right, right, w.x, gauged("", 0, 0, 0)))
		want(t, fmt.Sprint(w.x), m, e, api.GaugeMark{List: api.GaugeReadings, Number: 2}, w.e)
	}
	m, e := CheckBook(bookWith(gauged("butt", 5, 2, 1), right))
	want(t, "the first gauging", m, e, api.GaugeMark{List: api.GaugeReadings}, api.ErrOrder)
}

// TestWrongMoves: P4.3.
func TestWrongMoves(t *testing.T) {
	right := moved(5, "a", "b", 10)
	type wrong struct {
		x api.GaugeMove
		e api.Errno
	}
	l := []wrong{
		{moved(5, "", "", -1), api.ErrForm},
		{moved(5, "a", "a", -1), api.ErrForm},
		{moved(4, "a", "a", 1), api.ErrForm},
		{moved(5, "9", "9", -1), api.ErrName},
		{moved(4, "a", "b", 10), api.ErrOrder},
		{moved(4, "a", "b", -1), api.ErrRange},
	}
	for _, name := range wrongNames()[1:] {
		l = append(l, wrong{moved(4, name, "b", -1), api.ErrName}, wrong{moved(4, "a", name, -1), api.ErrName}, wrong{moved(4, "", name, -1), api.ErrName})
	}
	for _, day := range outside(0, api.MaxDate) {
		l = append(l, wrong{moved(day, "9", "", -1), api.ErrRange})
	}
	for _, volume := range outside(0, api.MaxVolume) {
		l = append(l, wrong{moved(4, "a", "", volume), api.ErrRange})
	}
	for _, w := range l {
		m, e := CheckBook(api.GaugeBook{Readings: rightBook().Readings, Moves: []api.GaugeMove{right, right, w.x, {}}})
		want(t, fmt.Sprint(w.x), m, e, api.GaugeMark{List: api.GaugeMoves, Number: 2}, w.e)
	}
	m, e := CheckBook(bookMoving(moved(5, "", "", 1), right))
	want(t, "the first move", m, e, api.GaugeMark{List: api.GaugeMoves}, api.ErrForm)
}

// TestNetOf: P4.3.
func TestNetOf(t *testing.T) {
	b := bookMoving(moved(0, "", "a", 100), moved(3, "a", "b", 30), moved(3, "c", "a", 7), moved(5, "b", "", 10), moved(5, "", "a", 1), moved(9, "", "b", 0))
	for _, x := range []struct {
		cask string
		days [2]int
		net  int
	}{
		{"a", [2]int{0, 9}, -22},
		{"a", [2]int{0, 3}, -23},
		{"a", [2]int{0, 2}, 0},
		{"a", [2]int{0, 0}, 0},
		{"a", [2]int{2, 3}, -23},
		{"a", [2]int{3, 5}, 1},
		{"a", [2]int{3, 4}, 0},
		{"a", [2]int{3, 3}, 0},
		{"b", [2]int{0, api.MaxDate}, 20},
		{"c", [2]int{0, 9}, -7},
		{"d", [2]int{0, 9}, 0},
		{"a", [2]int{api.MaxDate, api.MaxDate}, 0},
	} {
		n, e := NetOf(b, x.cask, x.days)
		want(t, fmt.Sprint(x), n, e, x.net, api.OK)
	}
	n, e := NetOf(bookMoving(slices.Repeat([]api.GaugeMove{moved(1, "", "a", api.MaxVolume)}, api.MaxGaugeMoves)...), "a", [2]int{0, 1})
	want(t, "more than a cask may have", n, e, 60*api.MaxVolume, api.OK)
	for _, name := range wrongNames() {
		n, e := NetOf(b, name, [2]int{-1, -2})
		refused(t, name, n, e, api.ErrName)
	}
	for _, day := range outside(0, api.MaxDate) {
		n, e := NetOf(b, "a", [2]int{day, 5})
		refused(t, fmt.Sprint("from ", day), n, e, api.ErrRange)
		n, e = NetOf(b, "a", [2]int{5, day})
		refused(t, fmt.Sprint("to ", day), n, e, api.ErrRange)
	}
	n, e = NetOf(b, "a", [2]int{5, 4})
	refused(t, "days in the wrong order", n, e, api.ErrOrder)
}

// wrongBooks is books with errors.
func wrongBooks() map[api.Errno]api.GaugeBook {
	return map[api.Errno]api.GaugeBook{
		api.ErrRange: {Loss: from(0, -1), Readings: make([]api.GaugeReading, 41)},
		api.ErrOrder: bookWith(gauged("a", 1, 0, 0), gauged("a", 0, 0, 0)),
		api.ErrLarge: {Readings: make([]api.GaugeReading, 41)},
		api.ErrName:  bookMoving(moved(0, "9", "", 1)),
		api.ErrForm:  bookMoving(moved(0, "a", "a", 1)),
	}
}

// TestWrongBooks: every function tells the error of its book first, whatever is wrong behind it (P4.3 to P4.5).
func TestWrongBooks(t *testing.T) {
	for e, b := range wrongBooks() {
		n, f := NetOf(b, "", [2]int{-1, -2})
		refused(t, "NetOf", n, f, e)
		r, f := ExpectedAt(b, -1, -1)
		refused(t, "ExpectedAt", r, f, e)
		r, f = VolumeAt(b, "", -1)
		refused(t, "VolumeAt", r, f, e)
		r, f = TotalAt(b, -1)
		refused(t, "TotalAt", r, f, e)
		is, f := Contradicts(b, [2]int{-1, 7})
		refused(t, "Contradicts", is, f, e)
		r, f = Gone(b, [2]int{-1, 7})
		refused(t, "Gone", r, f, e)
		pairs, f := Contradictions(b)
		refused(t, "Contradictions", pairs, f, e)
		rest, f := Without(b, []int{-1})
		refused(t, "Without", rest, f, e)
		refused(t, "CheckBlamed", 0, CheckBlamed(b, []int{-1}), e)
		l, f := Blamed(b)
		refused(t, "Blamed", l, f, e)
	}
}

// TestBookStays: R3.
func TestBookStays(t *testing.T) {
	b := clashingBook()
	was := copied(b)
	CheckBook(b)
	NetOf(b, "butt", [2]int{0, 10})
	VolumeAt(b, "butt", 5)
	TotalAt(b, 5)
	Gone(b, [2]int{0, 1})
	CheckBlamed(b, []int{1})
	l, _ := Blamed(b)
	l[0] = 7
	pairs, _ := Contradictions(b)
	pairs[0] = [2]int{7, 7}
	rest, _ := Without(b, []int{1})
	rest.Readings[0].Day, rest.Moves[0].Day = 7, 7
	rest, _ = Without(b, nil)
	rest.Readings[0].Day, rest.Moves[0].Day = 7, 7
	without := []int{0, 2}
	Without(b, without)
	CheckBlamed(b, without)
	want(t, "the book", b, 0, was, 0)
	want(t, "the gaugings left out", without, 0, []int{0, 2}, 0)
}
