package house

import (
	"fmt"
	"slices"
	"testing"

	"criadera/api"
)

// TestBalanceOf: P10.4 and P10.8.
func TestBalanceOf(t *testing.T) {
	for _, x := range []struct {
		log []api.HouseEntry
		b   api.HouseBalance
	}{
		{nil, api.HouseBalance{}},
		{example(), api.HouseBalance{In: 500, Held: 450, Sold: 50}},
		{example("ann cask b 100", "ann move a b 60", "ann lose b 7", "ann lose a 8", "ann join a b", "ann fill b 401 3", "ann draw b 1"), api.HouseBalance{In: 503, Held: 437, Sold: 51, Lost: 15}},
		{entries("ann cask a 9"), api.HouseBalance{}},
	} {
		b, e := BalanceOf(home(), x.log)
		want(t, "the balance", b, e, x.b, api.OK)
	}
}

// TestAgeOf: P10.4.
func TestAgeOf(t *testing.T) {
	for _, x := range []struct {
		log []api.HouseEntry
		age api.Frac
	}{
		{example(), api.Frac{Num: 7, Den: 5}},
		{example("ann day 1459"), api.Frac{Num: 7, Den: 5}},
		{example("ann day 1460"), api.Frac{Num: 12, Den: 5}},
		{example("ann day 100000"), api.Frac{Num: 1357, Den: 5}},
		{example("ann fill a 401 40", "ann fill a 402 10"), api.Frac{Num: 7, Den: 5}},
		{entries("ann cask a 9", "ann fill a 0 9"), api.Frac{Num: 0, Den: 1}},
		{entries("ann cask a 9", "ann fill a 0 9", "ann day 364"), api.Frac{Num: 0, Den: 1}},
		{entries("ann cask a 9", "ann fill a 0 9", "ann day 365"), api.Frac{Num: 1, Den: 1}},
		{entries("ann cask a 9", "ann fill a 400 9"), api.Frac{Num: -400, Den: 1}},
		{entries("ann cask a 9", "ann fill a 400 2", "ann fill a 399 4"), api.Frac{Num: -1198, Den: 3}},
		{entries("ann cask a 9", "ann day 730", "ann fill a 4 2", "ann fill a 0 2"), api.Frac{Num: 0, Den: 1}},
		{mixed(), api.Frac{Num: -99992, Den: 99991}},
		{slices.Concat(mixed(), entries("ann day 99999")), api.Frac{Num: 273*99991 - 99992, Den: 99991}},
	} {
		age, e := AgeOf(home(), x.log, "a")
		want(t, "the age", age, e, x.age, api.OK)
	}
	for _, x := range []struct {
		log  []api.HouseEntry
		cask string
		e    api.Errno
	}{
		{example(), "b", api.ErrMissing}, {example(), "", api.ErrMissing}, {example(), "a ", api.ErrMissing}, {example(), "A", api.ErrMissing}, {nil, "a", api.ErrMissing},
		{entries("ann cask a 9"), "a", api.ErrEmpty}, {entries("ann cask a 9", "ann fill a 401 2", "ann fill a 402 2"), "a", api.ErrEmpty}, {example("ann draw a 450"), "a", api.ErrEmpty},
		{mixed(), "b", api.ErrLarge}, {mixed(), "c", api.ErrLarge},
	} {
		age, e := AgeOf(home(), x.log, x.cask)
		refused(t, x.cask, age, e, x.e)
	}
}

// TestSmallAges: P10.4 and R6: a mean age is exact as long as it is a small fraction, however many years and parts of decilitres there are on the way to it.
func TestSmallAges(t *testing.T) {
	log := entries("ann cask a 100000", "ann cask b 100000", "ann cask c 100000", "ann cask d 100000", "ann fill a 400 99990", "ann fill a 401 1",
		"ann move a b 1", "ann fill b 400 99988", "ann move b c 1", "ann fill c 400 96", "ann move c d 1", "ann fill d 400 99999")
	d := stateOf(t, log).Wine.Casks[3].Wine
	want(t, "the parts of a decilitre", d.Den, 0, 99991*99989*97, 0)
	for day, age := range map[int]int{0: -400, 364: -400, 730: -398, 100000: -127} {
		f, e := AgeOf(home(), slices.Concat(log, entries(fmt.Sprint("ann day ", day))), "d")
		want(t, fmt.Sprint("on the day ", day), f, e, api.Frac{Num: age, Den: 1}, api.OK)
	}
	just := entries("ann cask a 100000", "ann cask b 100000", "ann fill a 1 62499", "ann fill a 0 1", "ann move a b 1", "ann fill b 0 15999")
	f, e := AgeOf(home(), just, "b")
	want(t, "just small", f, e, api.Frac{Num: -62499, Den: 1000000000}, api.OK)
	f, e = AgeOf(home(), slices.Concat(just, entries("ann day 365")), "b")
	want(t, "just small", f, e, api.Frac{Num: 1000000000 - 62499, Den: 1000000000}, api.OK)
	f, e = AgeOf(home(), slices.Concat(just, entries("ann day 730")), "b")
	refused(t, "a numerator that is not", f, e, api.ErrLarge)
	over := entries("ann cask a 100000", "ann cask b 100000", "ann fill a 1 52578", "ann fill a 0 1", "ann move a b 1", "ann fill b 0 19018") // 52579 * 19019 is 1000000001
	f, e = AgeOf(home(), over, "b")
	refused(t, "a denominator that is not", f, e, api.ErrLarge)
}

// TestClassOf: P10.4.
func TestClassOf(t *testing.T) {
	for _, x := range []struct {
		lines []string
		class string
	}{
		{words("tom sheet a 1,1"), "fino"}, {words("tom sheet a -"), "mosto"}, {words("tom sheet a 1", "tom sheet a 0"), "oloroso"}, {words("tom sheet a 0", "tom sheet a 1"), "oloroso"},
		{words("tom sheet a -", "tom sheet a 1", "ivy seal a", "tom sheet a 1"), "fino"}, {words("ann cask b 5", "tom sheet b 0", "tom sheet a 1"), "fino"},
	} {
		class, e := ClassOf(home(), example(x.lines...), "a")
		want(t, fmt.Sprint(x.lines), class, e, x.class, api.OK)
	}
	ranked := changed(func(h *api.House) { h.Rules.Classes[2].Name = "fino-2" })
	class, e := ClassOf(ranked, example("tom sheet a 1"), "a")
	want(t, "a name beyond its rank", class, e, "fino-2", api.OK)
	log := example("ann cask b 5", "tom sheet b 0")
	for cask, e := range map[string]api.Errno{"a": api.ErrNone, "c": api.ErrMissing, "": api.ErrMissing} {
		class, f := ClassOf(home(), log, cask)
		refused(t, cask, class, f, e)
	}
}

// TestBookOf: P10.4.
func TestBookOf(t *testing.T) {
	b, e := BookOf(home(), nil)
	want(t, "no log", b, e, api.GaugeBook{Loss: within(1000, 2000)}, api.OK)
	b, e = BookOf(home(), example("ann cask b 100", "ann day 1100", "ann move a b 45", "ann lose b 3", "ann gauge b 1100 40 41"))
	want(t, "the book", b, e, api.GaugeBook{
		Loss:     within(1000, 2000),
		Readings: []api.GaugeReading{{Cask: "a", Day: 1095, Volume: within(450, 450)}, {Cask: "b", Day: 1100, Volume: within(40, 41)}},
		Moves:    []api.GaugeMove{{To: "a", Volume: 400}, {Day: 1095, To: "a", Volume: 100}, {Day: 1095, From: "a", Volume: 50}, {Day: 1100, From: "a", To: "b", Volume: 45}},
	}, api.OK)
	all := times(56, "ann fill a 1 1")
	b, e = BookOf(home(), slices.Concat(entries("ann cask a 99"), all, entries("ann gauge a 0 9 9")))
	want(t, "many moves", len(b.Moves), e, 56, api.OK)
}

// manySuspects is a log with so many gaugings that contradict one another.
func manySuspects(count int) []api.HouseEntry {
	log := entries("ann cask a 100")
	for n := range count {
		log = append(log, entryOfLine(fmt.Sprint("ann gauge a 0 ", n, " ", n)))
	}
	return log
}

// TestSuspects: P10.4.
func TestSuspects(t *testing.T) {
	for _, x := range []struct {
		log      []api.HouseEntry
		suspects []int
	}{
		{nil, nil},
		{example(), nil},
		{example("ann day 1105", "ann gauge a 1105 430 430"), nil},
		{example("ann day 1105", "ann gauge a 1105 440 460"), nil},
		{example("ann day 1105", "ann gauge a 1105 420 420"), numbers(0)},
		{example("ann day 1105", "ann gauge a 1105 420 429"), numbers(0)},
		{example("ann day 1105", "ann gauge a 1105 441 500"), numbers(0)},
		{example("ann day 1105", "ann draw a 10", "ann gauge a 1105 420 420"), nil},
		{example("ann day 1105", "ann lose a 10", "ann gauge a 1105 420 420"), numbers(0)},
		{example("ann gauge a 1095 450 450", "ann day 1105", "ann gauge a 1105 420 420"), numbers(2)},
		{manySuspects(14), numbers(0, 1, 2, 3, 4, 5, 6, 7, 8, 9, 10, 11, 12)},
	} {
		l, e := Suspects(home(), x.log)
		want(t, "the suspects", l, e, x.suspects, api.OK)
	}
	l, e := Suspects(home(), manySuspects(15))
	refused(t, "too many", l, e, api.ErrLarge)
	strict := changed(func(h *api.House) { h.Loss = within(0, 0) })
	l, e = Suspects(strict, example("ann day 1105", "ann gauge a 1105 435 435"))
	want(t, "without losses", l, e, numbers(0), api.OK)
}

// TestUnexplained: P10.4.
func TestUnexplained(t *testing.T) {
	log := example("ann cask b 100", "ann fill b 1 100", "ann day 1100", "ann lose a 5", "ann lose b 1", "ann day 1102", "ann lose a 7", "ann lose a 2", "ann day 1110")
	for _, x := range []struct {
		loss        string
		isExplained bool
	}{
		{"a 1100 1102 14 14", true}, {"a 1100 1102 15 99", false}, {"a 1100 1102 0 13", false}, {"a 1095 1110 14 20", true}, {"a 1095 1110 0 14", true},
		{"a 1100 1101 5 5", true}, {"a 1100 1100 5 5", true}, {"a 1101 1102 9 9", true}, {"a 1102 1102 9 9", true}, {"a 1101 1101 0 0", true}, {"a 1101 1101 0 9", true}, {"a 1101 1101 1 9", false},
		{"a 1099 1101 4 6", true}, {"a 1103 1110 1 9", false}, {"a 0 1099 1 9", false}, {"a 0 1099 0 0", true}, {"b 1095 1110 1 1", true}, {"b 1095 1110 2 14", false}, {"b 1101 1110 0 0", true},
	} {
		l, e := Unexplained(home(), slices.Concat(log, entries("cy loss "+x.loss)))
		if x.isExplained {
			want(t, x.loss, l, e, nil, api.OK)
		} else {
			want(t, x.loss, l, e, numbers(0), api.OK)
		}
	}
	l, e := Unexplained(home(), slices.Concat(log, entries("cy loss a 0 9 1 9", "cy loss a 0 9 0 9", "cy loss b 1100 1100 1 1", "cy loss b 0 1110 2 2", "ann lose b 1", "cy loss a 0 0 2 2")))
	want(t, "several, one of which is explained later on", l, e, numbers(0, 4), api.OK)
	l, e = Unexplained(home(), nil)
	want(t, "no log", l, e, nil, api.OK)
}
