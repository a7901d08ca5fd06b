package age

import (
	"fmt"
	"strings"
	"testing"

	"criadera/api"
	"criadera/scale"
)

// TestMatrix: P2.1.
func TestMatrix(t *testing.T) {
	for _, x := range []struct {
		text string
		want api.AgeMatrix
	}{
		{oneCask, api.AgeMatrix{Den: 4, Rows: [][]int{{3}}, New: []int{100}}},
		{twoCasks, api.AgeMatrix{Den: 4, Rows: [][]int{{3, 1}, {0, 3}}, New: []int{0, 100}}},
		{exchange, api.AgeMatrix{Den: 1, Rows: [][]int{{0, 1, 0}, {1, 0, 0}, {0, 0, 0}}, New: []int{0, 0, 0}}},
		{still, api.AgeMatrix{Den: 1, Rows: [][]int{{0, 0, 0}, {0, 1, 0}, {0, 0, 1}}, New: []int{0, 0, 0}}},
		{through, api.AgeMatrix{Den: 1, Rows: [][]int{{0, 0}, {0, 1}}, New: []int{0, 0}}},
		// e: 20 of a with 60 of new wine, of which three quarters are sold: a has 65/80 of its own, and 15 of new wine.
		{part, api.AgeMatrix{Den: 80, Rows: [][]int{{0, 0, 0, 0}, {0, 65, 0, 0}, {0, 0, 64, 64}, {0, 0, 16, 16}}, New: []int{0, 1200, 0, 0}}},
		// Filled in twice: 50 of it are half of the cask ahead of the second draw.
		{"system s\ncask a 100 100\ndays 1\ndraw a 50\nfill a 50\ndraw a 50\nfill a 50\n", api.AgeMatrix{Den: 4, Rows: [][]int{{1}}, New: []int{300}}},
	} {
		m, e := MatrixOf(told(t, x.text))
		want(t, x.text, m, e, x.want, api.OK)
	}
}

// TestLargeMatrix: P2.1: the least common denominator may be MaxAgeDen (10^12), and no more, whatever it is on the way.
func TestLargeMatrix(t *testing.T) {
	m, e := MatrixOf(told(t, thin(10000)))
	want(t, "just right", m, e, api.AgeMatrix{Den: api.MaxAgeDen, Rows: [][]int{{999700029999}}, New: []int{2999700010000}}, api.OK)
	m, e = MatrixOf(told(t, thin(10001)))
	refused(t, "too large", m, e, api.ErrLarge)
	text := strings.Replace(thin(99991), "draw", "draw a 1\nfill a 1\ndraw", 3)
	m, e = MatrixOf(told(t, text+"draw a 99991\nfill a 99991\n"))
	want(t, "large on the way", m, e, api.AgeMatrix{Den: 1, Rows: [][]int{{0}}, New: []int{99991}}, api.OK)
	// Two casks whose denominators are small by themselves.
	m, e = MatrixOf(told(t, "system s\ncask a 100000 99991\ncask b 100000 99989\ncask c 100000 99971\ndays 1\ndraw a 1\nfill a 1\ndraw b 1\nfill b 1\ndraw c 1\nfill c 1\n"))
	refused(t, "too large together", m, e, api.ErrLarge)
}

// TestEntry: P2.1.
func TestEntry(t *testing.T) {
	s := told(t, twoCasks)
	for _, x := range []struct {
		turns int
		at    [2]int
		want  api.Range
		e     api.Errno
	}{
		{1, [2]int{0, 1}, at(250000000), api.OK},
		{2, [2]int{0, 1}, at(375000000), api.OK},
		{2, [2]int{1, 0}, at(0), api.OK},
		{2, [2]int{0, 0}, at(562500000), api.OK},
		// (3/4)^40 is 1.0056585161637... in a hundred thousand.
		{40, [2]int{0, 0}, api.Range{Lo: 10056, Hi: 10057}, api.OK},
		{0, [2]int{9, 9}, api.Range{}, api.ErrRange},
		{41, [2]int{0, 0}, api.Range{}, api.ErrRange},
		{-1, [2]int{0, 0}, api.Range{}, api.ErrRange},
		{1, [2]int{2, 0}, api.Range{}, api.ErrMissing},
		{1, [2]int{0, 2}, api.Range{}, api.ErrMissing},
		{1, [2]int{-1, 0}, api.Range{}, api.ErrMissing},
		{1, [2]int{0, -1}, api.Range{}, api.ErrMissing},
	} {
		r, e := Entry(s, x.turns, x.at)
		want(t, fmt.Sprint(x.turns, x.at), r, e, x.want, x.e)
	}
	for _, at2 := range [][2]int{{2, 2}, {0, 2}, {2, 0}} {
		r, e := Entry(told(t, exchange), 3, at2)
		want(t, "of an empty cask", r, e, at(0), api.OK)
	}
}

// TestWrongSystems: the errors of a system are those of all functions, ahead of all others (DayOf asks CheckSystem alone).
func TestWrongSystems(t *testing.T) {
	for f, s := range wrongSystems(t) {
		for _, bad := range []bool{false, true} {
			_, errors := every(s, bad)
			for name, e := range errors {
				if e != f {
					t.Errorf("%s of a wrong system: %d, want %d", name, e, f)
				}
			}
			day, e := DayOf(s, 3)
			if f == api.ErrLarge {
				want(t, "DayOf of a large matrix", day, e, 3*api.Year+9, api.OK)
			} else {
				refused(t, "DayOf of a wrong system", day, e, f)
			}
		}
	}
	none, errors := every(told(t, part), true)
	zero, _ := every(api.ScaleSystem{}, false)
	for name, e := range errors {
		if e != api.OK && none[name] != zero[name] {
			t.Errorf("%s: %s beside an error", name, none[name])
		}
	}
}

// TestSameAgain: R3 and R4: nothing is written into a system, results are new, and the same again.
func TestSameAgain(t *testing.T) {
	for _, text := range []string{oneCask, twoCasks, exchange, cycle, part, still} {
		s := told(t, text)
		before, _ := scale.Print(s)
		first, _ := every(s, false)
		matrix, _ := MatrixOf(s)
		shares, _ := ByReplay(s, 3)
		closed, _ := Closed(s)
		for i := range matrix.Rows {
			_ = append(matrix.Rows[i], -7)
			_ = append(matrix.New[:i], -7)
		}
		for _, l := range shares {
			_ = append(l[:0], api.Range{Lo: -7})
			_ = append(l, api.Range{Lo: -7})
		}
		for _, c := range closed {
			_ = append(c.Casks[:0], -7)
			_ = append(c.Casks, -7)
		}
		second, _ := every(s, false)
		want(t, text, second, 0, first, 0)
		after, e := scale.Print(s)
		want(t, "the system", after, e, before, api.OK)
	}
}

// TestListsOfAResult: R3: appending to a list of a result changes no other one.
func TestListsOfAResult(t *testing.T) {
	s := told(t, part)
	matrix, _ := MatrixOf(s)
	before := fmt.Sprint(matrix)
	for _, l := range append(matrix.Rows, matrix.New) {
		_ = append(l, -7)
	}
	want(t, "the matrix", fmt.Sprint(matrix), 0, before, 0)
	shares, _ := ByPowers(s, 3)
	before = fmt.Sprint(shares)
	for _, l := range shares {
		_ = append(l, api.Range{Lo: -7})
	}
	want(t, "the shares", fmt.Sprint(shares), 0, before, 0)
}
