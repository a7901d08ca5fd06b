package age

import (
	"fmt"
	"strings"
	"testing"

	"criadera/api"
)

// TestReached and the next ones: P2.6.
func TestReached(t *testing.T) {
	for text, l := range map[string][]int{
		oneCask:  {0},
		twoCasks: {1, 0},
		exchange: {-1, -1, -1},
		part:     {-1, 0, -1, -1},
		through:  {-1, -1},
		still:    {-1, -1, -1},
		"system s\ncask a 9 9\ncask b 9 9\ncask c 9 9\ncask d 9 9\ndays 1\ndraw c 1\nmove a c 1\nmove d a 1\nmove b d 1\nfill b 1\n": {2, 0, 3, 1},
	} {
		got, e := Reached(told(t, text))
		want(t, "Reached of "+text, got, e, l, api.OK)
	}
}

func TestClosed(t *testing.T) {
	for text, l := range map[string][]api.AgeClosed{
		oneCask:  nil,
		twoCasks: nil,
		exchange: {{Casks: []int{0, 1}, Period: 2}},
		cycle:    {{Casks: []int{1, 2, 3}, Period: 3}},
		part:     {{Casks: []int{2, 3}, Period: 1}},
		through:  {{Casks: []int{1}, Period: 1}},
		still:    {{Casks: []int{1}, Period: 1}, {Casks: []int{2}, Period: 1}},
		// a and c go round, b stays.
		"system s\ncask a 9 9\ncask b 9 9\ncask c 9 9\ncask e 9 0\ndays 1\nmove a e 9\nmove c a 9\nmove e c 9\n": {{Casks: []int{0, 2}, Period: 2}, {Casks: []int{1}, Period: 1}},
		// Some wine of b stays in it.
		"system s\ncask a 9 4\ncask b 9 4\ncask c 9 2\ncask e 9 0\ndays 1\nmove a e 4\nmove b a 2\nmove c a 2\nmove e c 2\nmove e b 2\n": {{Casks: []int{0, 1, 2}, Period: 1}},
		// From a to b or c, and back: all ways have an even number of turns.
		"system s\ncask a 9 4\ncask b 9 2\ncask c 9 2\ncask e 9 0\ndays 1\nmove a e 4\nmove b a 2\nmove c a 2\nmove e c 2\nmove e b 2\n": {{Casks: []int{0, 1, 2}, Period: 2}},
	} {
		got, e := Closed(told(t, text))
		want(t, "Closed of "+text, got, e, l, api.OK)
	}
}

func TestSettledShares(t *testing.T) {
	for _, x := range []struct {
		text      string
		cask, age int
		want      api.Range
		e         api.Errno
	}{
		{oneCask, 0, 0, at(250000000), api.OK},
		{oneCask, 0, 2, at(140625000), api.OK},
		{oneCask, 0, 40, api.Range{Lo: 2514, Hi: 2515}, api.OK},
		{twoCasks, 0, 0, at(0), api.OK},
		{part, 1, 1, at(152343750), api.OK},
		{oneCask, 1, -1, api.Range{}, api.ErrMissing},
		{oneCask, -1, 0, api.Range{}, api.ErrMissing},
		{part, 0, -1, api.Range{}, api.ErrZero},
		{part, 2, -1, api.Range{}, api.ErrOpen},
		{part, 1, -1, api.Range{}, api.ErrRange},
		{part, 1, 41, api.Range{}, api.ErrRange},
	} {
		r, e := SettledShare(told(t, x.text), x.cask, x.age)
		want(t, fmt.Sprint("SettledShare ", x.cask, x.age, x.text), r, e, x.want, x.e)
	}
}

func TestSettledMeans(t *testing.T) {
	// Of a: A = 13/16 (A + 80): 13/3 of 80. What is sold: 3/16 (A + 80) / 60 = 4/3.
	for _, x := range []struct {
		text  string
		means []api.Range
		sold  api.Range
		e     api.Errno
	}{
		{oneCask, []api.Range{at(3000)}, at(4000), api.OK},
		{twoCasks, []api.Range{at(7000), at(3000)}, at(8000), api.OK},
		{exchange, []api.Range{{}, {}, {}}, api.Range{}, api.ErrNone},
		{still, []api.Range{{}, {}, {}}, api.Range{}, api.ErrNone},
		{through, []api.Range{{}, {}}, at(0), api.OK},
		{part, []api.Range{{}, {Lo: 4333, Hi: 4334}, {}, {}}, api.Range{Lo: 1333, Hi: 1334}, api.OK},
		{"system s\ncask a 100000 100000\ndays 1\ndraw a 1\nfill a 1\n", []api.Range{at(99999000)}, at(100000000), api.OK},
	} {
		s := told(t, x.text)
		l, e := SettledMeans(s)
		want(t, "SettledMeans of "+x.text, l, e, x.means, api.OK)
		r, e := SettledSold(s)
		want(t, "SettledSold of "+x.text, r, e, x.sold, x.e)
	}
}

func TestSettledWithin(t *testing.T) {
	for _, x := range []struct {
		text string
		part int
		want int
		e    api.Errno
	}{
		{oneCask, 1, 0, api.OK},
		{oneCask, 2, 3, api.OK},
		// (3/4)^40 is 1 / 99437.5.
		{oneCask, 99437, 40, api.OK},
		{oneCask, 99438, 0, api.ErrNone},
		{oneCask, api.Unit, 0, api.ErrNone},
		// Just a quarter is left.
		{"system s\ncask a 100 100\ndays 1\ndraw a 75\nfill a 75\n", 4, 1, api.OK},
		{"system s\ncask a 100 100\ndays 1\ndraw a 75\nfill a 75\n", 5, 2, api.OK},
		{"system s\ncask a 100 100\ndays 1\ndraw a 100\nfill a 100\n", api.Unit, 1, api.OK},
		// The cask that is renewed last of all decides: of b 27/64 are left behind three turns, of a (3/4)^7 10/3 behind seven.
		{twoCasks, 2, 7, api.OK},
		{part, 2, 4, api.OK},
		{still, api.Unit, 0, api.OK},
		{exchange, 7, 0, api.OK},
		{oneCask, 0, 0, api.ErrRange},
		{oneCask, -1, 0, api.ErrRange},
		{oneCask, api.Unit + 1, 0, api.ErrRange},
		{still, 0, 0, api.ErrRange},
	} {
		n, e := SettledWithin(told(t, x.text), x.part)
		want(t, fmt.Sprint("SettledWithin ", x.part, x.text), n, e, x.want, x.e)
	}
}

// rinsed is casks that are emptied twice in a turn but for a decilitre: hardly any wine in them has an age, and the proof has small numbers and a great denominator.
func rinsed(volumes ...int) string {
	text, steps := "system s\n", ""
	for i, v := range volumes {
		text += fmt.Sprintf("cask a%d %d %d\n", i, v, v)
		step := fmt.Sprintf("draw a%d %d\nfill a%d %d\n", i, v-1, i, v-1)
		steps += step + step
	}
	return text + "days 3\n" + steps
}

// TestProofs: P2.7.
func TestProofs(t *testing.T) {
	for _, x := range []struct {
		text string
		want api.AgeProof
		e    api.Errno
	}{
		{oneCask, api.AgeProof{Den: 1, Sums: []int{300}}, api.OK},
		{twoCasks, api.AgeProof{Den: 1, Sums: []int{700, 300}}, api.OK},
		{part, api.AgeProof{Den: 3, Sums: []int{0, 1040, 0, 0}}, api.OK},
		{exchange, api.AgeProof{Den: 1, Sums: []int{0, 0, 0}}, api.OK},
		{still, api.AgeProof{Den: 1, Sums: []int{0, 0, 0}}, api.OK},
		{through, api.AgeProof{Den: 1, Sums: []int{0, 0}}, api.OK},
		// A = 999^3/10^9 (A + 1000).
		{thin(1000), api.AgeProof{Den: 2997001, Sums: []int{997002999000}}, api.OK},
		// 9999^3 10^4 is more than 10^15.
		{thin(10000), api.AgeProof{}, api.ErrLarge},
		{rinsed(1000), api.AgeProof{Den: 999999, Sums: []int{1000}}, api.OK},
		// The greatest number of the proof is its denominator here.
		{rinsed(1000, 500, 250), api.AgeProof{}, api.ErrLarge},
	} {
		s := told(t, x.text)
		p, e := ProofOf(s)
		want(t, "ProofOf "+x.text, p, e, x.want, x.e)
		if e == api.OK {
			want(t, "CheckProof of "+x.text, 0, CheckProof(s, p), 0, api.OK)
		}
	}
}

func TestCheckProof(t *testing.T) {
	many := make([]int, 2000)
	for _, x := range []struct {
		text string
		p    api.AgeProof
		e    api.Errno
	}{
		{twoCasks, api.AgeProof{Den: 2, Sums: []int{1400, 600}}, api.OK},
		{twoCasks, api.AgeProof{Den: 1, Sums: []int{700, 301}}, api.ErrProof},
		{twoCasks, api.AgeProof{Den: 1, Sums: []int{701, 300}}, api.ErrProof},
		{twoCasks, api.AgeProof{Den: 2, Sums: []int{700, 300}}, api.ErrProof},
		{twoCasks, api.AgeProof{Den: 1, Sums: []int{0, 0}}, api.ErrProof},
		{part, api.AgeProof{Den: 6, Sums: []int{0, 2080, 0, 0}}, api.OK},
		{part, api.AgeProof{Den: 3, Sums: []int{1, 1040, 0, 0}}, api.ErrProof},
		{part, api.AgeProof{Den: 3, Sums: []int{0, 1040, 1, 0}}, api.ErrProof},
		{part, api.AgeProof{Den: 3, Sums: []int{0, 1040, 0, 1}}, api.ErrProof},
		{part, api.AgeProof{Den: 3, Sums: []int{0, 1041, 0, 0}}, api.ErrProof},
		{still, api.AgeProof{Den: api.MaxNumber, Sums: []int{0, 0, 0}}, api.OK},
		{still, api.AgeProof{Den: api.MaxNumber, Sums: []int{0, api.MaxNumber, 0}}, api.ErrProof},
		{rinsed(1000), api.AgeProof{Den: 999999, Sums: []int{api.MaxNumber}}, api.ErrProof},
		// As great as MaxNumber allows.
		{rinsed(1000), api.AgeProof{Den: 999999 * 1000000999, Sums: []int{1000 * 1000000999}}, api.OK},
		{oneCask, api.AgeProof{Den: api.MaxNumber / 300, Sums: []int{api.MaxNumber / 300 * 300}}, api.OK},
		{twoCasks, api.AgeProof{Den: 0, Sums: []int{700}}, api.ErrShape},
		{twoCasks, api.AgeProof{Den: 1, Sums: []int{700, 300, 0}}, api.ErrShape},
		{twoCasks, api.AgeProof{Den: 1, Sums: nil}, api.ErrShape},
		{twoCasks, api.AgeProof{Den: 1, Sums: many}, api.ErrShape},
		{twoCasks, api.AgeProof{Den: 0, Sums: []int{0, 0}}, api.ErrRange},
		{twoCasks, api.AgeProof{Den: -1, Sums: []int{-700, -300}}, api.ErrRange},
		{twoCasks, api.AgeProof{Den: api.MaxNumber + 1, Sums: []int{700, 300}}, api.ErrRange},
		{twoCasks, api.AgeProof{Den: 1, Sums: []int{700, -1}}, api.ErrRange},
		{twoCasks, api.AgeProof{Den: 1, Sums: []int{api.MaxNumber + 1, 300}}, api.ErrRange},
		{twoCasks, api.AgeProof{Den: 1, Sums: []int{api.MaxNumber, 300}}, api.ErrProof},
	} {
		sums := fmt.Sprint(x.p.Sums)
		want(t, fmt.Sprint("CheckProof ", x.p.Den, sums[:min(len(sums), 40)], strings.ReplaceAll(x.text, "\n", ";")), 0, CheckProof(told(t, x.text), x.p), 0, x.e)
		want(t, "its numbers", fmt.Sprint(x.p.Sums), 0, sums, 0)
	}
}
