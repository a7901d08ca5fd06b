package house

import (
	"slices"
	"testing"

	"criadera/api"
	"criadera/scale"
)

// TestDay: P10.2.
func TestDay(t *testing.T) {
	entered(t, []behind{
		{nil, "ann day 0", api.OK}, {nil, "ann day 100000", api.OK}, {nil, "ann day -1", api.ErrRange}, {nil, "ann day 100001", api.ErrRange},
		{example(), "ann day 1095", api.OK}, {example(), "ann day 1096", api.OK}, {example(), "ann day 1094", api.ErrOrder}, {example(), "ann day 0", api.ErrOrder},
		{example(), "ann day -1", api.ErrRange}, {entries("ann day 100000"), "ann day 99999", api.ErrOrder}, {entries("ann day 100000"), "ann day 100001", api.ErrRange},
		{entries("ann day 7"), "tom day 8", api.OK}, {entries("ann day 7"), "ivy day 6", api.ErrOrder},
	})
	want(t, "the day", stateOf(t, entries("ann day 5", "ann day 5", "ann day 9")).Day, 0, 9, 0)
}

// TestActErrors: P10.2: the errors of an act's text, then that of seals, then those of chapter 1.
func TestActErrors(t *testing.T) {
	log := example("ann cask b 20", "ann fill b 401 10", "ann cask c 100", "ivy seal b")
	entered(t, []behind{
		{log, "ann draw a", api.ErrSyntax}, {log, "ann draw a b 5", api.ErrSyntax}, {log, "ann draw a 5x", api.ErrSyntax}, {log, "ann fill a 5", api.ErrSyntax}, {log, "ann draw b 1234567890", api.ErrSyntax},
		{log, "ann draw 9a 5", api.ErrName}, {log, "ann draw a 0", api.ErrRange}, {log, "ann draw b 100001", api.ErrRange}, {log, "ann fill b 403 5", api.ErrRange}, {log, "ann cask d 0", api.ErrRange},
		{log, "ann move b b 5", api.ErrDouble}, {log, "ann join b", api.ErrShape}, {log, "ann join b b", api.ErrDouble},
		{log, "ann draw b 5", api.ErrBusy}, {log, "ann fill b 5 5", api.ErrBusy}, {log, "ann lose b 5", api.ErrBusy}, {log, "ann move a b 5", api.ErrBusy}, {log, "ann move b a 5", api.ErrBusy},
		{log, "ann join a b", api.ErrBusy}, {log, "ann join a c b", api.ErrBusy},
		{log, "ann cask b 5", api.ErrBusy}, {log, "ann draw b 11", api.ErrBusy}, {log, "ann fill b 5 11", api.ErrBusy}, {log, "ann move b x 5", api.ErrBusy}, {log, "ann join x b", api.ErrBusy},
		{log, "ann cask a 5", api.ErrExists}, {log, "ann draw x 5", api.ErrMissing}, {log, "ann draw a 451", api.ErrNone}, {log, "ann fill a 5 51", api.ErrFull}, {log, "ann move a c 101", api.ErrFull}, {log, "ann move c a 1", api.ErrNone}, {log, "ann join a x", api.ErrMissing},
		{log, "ann draw a 450", api.OK}, {log, "ann move a c 100", api.OK}, {log, "ann join a c", api.OK}, {log, "ann lose a 1", api.OK}, {log, "ann fill c 400 1", api.OK}, {log, "ann cask d 100000", api.OK},
		{slices.Concat(log, entries("ivy open b")), "ann draw b 10", api.OK},
		{slices.Concat(log, entries("ivy open b", "ivy seal a")), "ann move b a 10", api.ErrBusy},
		{slices.Concat(log, entries("ivy open b", "ivy seal a", "ivy seal b", "ivy open a")), "ann draw b 10", api.ErrBusy},
	})
}

// TestTooLarge: P10.2: an act is refused if the wine behind it is too large for chapter 1.
func TestTooLarge(t *testing.T) {
	entered(t, []behind{{mixed(), "ann move c d 1", api.OK}, {slices.Concat(mixed(), entries("ann move c d 1")), "ann fill d 9 99971", api.OK},
		{slices.Concat(mixed(), entries("ann move c d 1", "ann fill d 9 99971")), "ann move d a 1", api.ErrLarge}})
}

// mixed is a log behind which parts of wine are so small that their mean age is no small fraction.
func mixed() []api.HouseEntry {
	return entries("ann cask a 100000", "ann cask b 100000", "ann cask c 100000", "ann cask d 100000", "ann fill a 1 99990", "ann fill a 2 1",
		"ann move a b 1", "ann fill b 3 99988", "ann move b c 1")
}

// TestActs: P10.2: an act changes the wine as in chapter 1.
func TestActs(t *testing.T) {
	var log []api.HouseEntry
	none := api.ScaleWine{Den: 1}
	state := api.ScaleState{In: none, Sold: none, Lost: none}
	for _, text := range words("cask a 100", "cask b 100", "fill a 10 100", "fill b 12 60", "move a b 30", "draw b 45", "join a b", "lose a 7", "fill a 402 30", "draw a 93") {
		log = append(log, api.HouseEntry{By: "ann", Text: text})
		a, e := scale.ParseAct(text)
		want(t, "the act", 0, e, 0, api.OK)
		state, e = scale.Apply(state, a)
		want(t, "the act", 0, e, 0, api.OK)
		want(t, text, scale.FormatState(stateOf(t, log).Wine), 0, scale.FormatState(state), 0)
	}
}

// TestNotes: P10.2 and P10.11: what acts are beside the wine that they change.
func TestNotes(t *testing.T) {
	log := entries("ann cask a 900", "ann cask b 900", "ann fill a 1 500")
	for _, x := range []struct {
		lines []string
		due   int
		moves []api.GaugeMove
		lost  []api.HouseLost
	}{
		{words("ann draw a 7"), 0, []api.GaugeMove{{From: "a", Volume: 7}}, nil},
		{words("ivy duty 1000", "ann draw a 7"), 7000, []api.GaugeMove{{From: "a", Volume: 7}}, nil},
		{words("ivy duty 1000", "ann day 3", "ann draw a 7", "ivy duty 1", "ann day 4", "ann draw a 9", "ivy duty 0", "ann draw a 11"), 7009,
			[]api.GaugeMove{{Day: 3, From: "a", Volume: 7}, {Day: 4, From: "a", Volume: 9}, {Day: 4, From: "a", Volume: 11}}, nil},
		{words("ivy duty 5", "ann lose a 7", "ann day 8", "ann lose a 1"), 0, nil, []api.HouseLost{{Cask: "a", Volume: 7}, {Day: 8, Cask: "a", Volume: 1}}},
		{words("ivy duty 5", "ann move a b 7", "ann day 2", "ann move b a 6"), 0, []api.GaugeMove{{From: "a", To: "b", Volume: 7}, {Day: 2, From: "b", To: "a", Volume: 6}}, nil},
		{words("ivy duty 5", "ann fill b 402 7"), 0, []api.GaugeMove{{To: "b", Volume: 7}}, nil},
		{words("ivy duty 5", "ann join a b", "ann cask c 9", "ann join b a c"), 0, nil, nil},
		{words("ann draw a 7", "ivy duty 5"), 0, []api.GaugeMove{{From: "a", Volume: 7}}, nil},
	} {
		s := stateOf(t, slices.Concat(log, entries(x.lines...)))
		want(t, "due", s.Due, 0, x.due, 0)
		want(t, "moves", s.Moves, 0, slices.Concat([]api.GaugeMove{{To: "a", Volume: 500}}, x.moves), 0)
		want(t, "lost", s.Lost, 0, x.lost, 0)
	}
}
