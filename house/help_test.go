package house

import (
	"fmt"
	"math"
	"reflect"
	"slices"
	"strings"
	"testing"

	"criadera/api"
)

// want compares a value and an error. A nil list and an empty one are printed alike.
func want[T any](t *testing.T, what string, got T, e api.Errno, value T, f api.Errno) {
	t.Helper()
	if fmt.Sprintf("%+v", got) != fmt.Sprintf("%+v", value) || e != f {
		t.Errorf("%s: %+v, %d, want %+v, %d", what, got, e, value, f)
	}
}

// refused asks for an error, and for nothing beside it.
func refused[T any](t *testing.T, what string, got T, e api.Errno, f api.Errno) {
	t.Helper()
	var none T
	want(t, what, got, e, none, f)
}

// nothingOf tells whether a result is nothing.
func nothingOf[T any](x T, e api.Errno) (bool, api.Errno) {
	return reflect.ValueOf(&x).Elem().IsZero(), e
}

// numbers and words are lists.
func numbers(l ...int) []int { return l }

func words(l ...string) []string { return l }

func within(lo, hi int) api.Range { return api.Range{Lo: lo, Hi: hi} }

// class is a class with as many reasons as classes to which marks lead.
func class(name string, next []int, reasons ...string) api.TasteClass {
	return api.TasteClass{Name: name, Next: next, Reasons: reasons}
}

// home is the house of the chapter's examples.
func home() api.House {
	return api.House{
		People: []api.HousePerson{{Name: "ann", Role: api.RoleCellar}, {Name: "tom", Role: api.RoleTaster}, {Name: "cy", Role: api.RoleClerk}, {Name: "ivy", Role: api.RoleInspector}},
		Rules: api.TasteBook{Marks: words("raya", "palma"), Classes: []api.TasteClass{
			class("mosto", numbers(1, 2), "fat", "thin"),
			class("oloroso", numbers(1, 1), "keep", "keep"),
			class("fino", numbers(1, 2), "fallen", "keep"),
		}},
		Loss: within(1000, 2000),
	}
}

// changed is home with a change.
func changed(change func(h *api.House)) api.House {
	h := home()
	change(&h)
	return h
}

// entryOfLine is an entry, told by its person and its text with a blank between.
func entryOfLine(line string) api.HouseEntry {
	by, text, _ := strings.Cut(line, " ")
	return api.HouseEntry{By: by, Text: text}
}

// entries is a log, or a part of one.
func entries(lines ...string) []api.HouseEntry {
	var log []api.HouseEntry
	for _, line := range lines {
		log = append(log, entryOfLine(line))
	}
	return log
}

// example is the log of the chapter's examples, with more entries behind it.
func example(lines ...string) []api.HouseEntry {
	log := entries("ivy duty 3", "ann cask a 500", "ann fill a 2 400", "ann day 1095", "ann fill a 0 100", "ann draw a 50", "ann gauge a 1095 450 450")
	return slices.Concat(log, entries(lines...))
}

// times is the same entry so many times.
func times(count int, line string) []api.HouseEntry {
	return slices.Repeat(entries(line), count)
}

// outside is numbers that are not from least to most.
func outside(least, most int) []int {
	return numbers(least-1, most+1, math.MinInt, math.MaxInt)
}

// wrongNames is texts that are no names.
func wrongNames() []string { return words("", "9a", "-a", "abcdefghijklm", "a b", "ä", "a_", "a/b") }

// A wrongHouse is a house with an error, and the number of its person.
type wrongHouse struct {
	what string
	h    api.House
	n    int
	e    api.Errno
}

// wrongHouses is houses with errors, some of them with several.
func wrongHouses() []wrongHouse {
	l := []wrongHouse{
		{"nothing", api.House{}, 0, api.ErrShape},
		{"no people", changed(func(h *api.House) { h.People = nil }), 0, api.ErrShape},
		{"no people, and a wrong loss", changed(func(h *api.House) { h.People, h.Loss.Lo = nil, -1 }), 0, api.ErrShape},
		{"too many people", changed(func(h *api.House) { h.People = people(21) }), 0, api.ErrLarge},
		{"too many people, and wrong ones", changed(func(h *api.House) { h.People = make([]api.HousePerson, 21) }), 0, api.ErrLarge},
		{"a name twice", changed(func(h *api.House) { h.People[3].Name = "tom" }), 3, api.ErrExists},
		{"the first name twice", changed(func(h *api.House) { h.People[2].Name = "ann" }), 2, api.ErrExists},
		{"a wrong name twice", changed(func(h *api.House) { h.People[2].Name, h.People[3].Name = "", "" }), 2, api.ErrName},
		{"a name twice, of no role", changed(func(h *api.House) { h.People[1] = api.HousePerson{Name: "ann", Role: 4} }), 1, api.ErrKind},
		{"a wrong name of no role", changed(func(h *api.House) { h.People[1] = api.HousePerson{Name: "t m", Role: 4} }), 1, api.ErrName},
		{"the first wrong person", changed(func(h *api.House) { h.People[1].Role, h.People[2].Name, h.Rules.Begin = 7, "", 9 }), 1, api.ErrKind},
		{"no rules", changed(func(h *api.House) { h.Rules = api.TasteBook{} }), 0, api.ErrShape},
		{"rules without a beginning", changed(func(h *api.House) { h.Rules.Begin = 3 }), 0, api.ErrMissing},
		{"rules with a wrong class", changed(func(h *api.House) { h.Rules.Classes[2].Name = "" }), 0, api.ErrName},
		{"wrong rules, and a wrong loss", changed(func(h *api.House) { h.Rules.Classes[1].Name, h.Loss.Hi = "mosto", -1 }), 0, api.ErrExists},
		{"a loss in a wrong order", changed(func(h *api.House) { h.Loss = within(2, 1) }), 0, api.ErrOrder},
		{"a loss in a wrong order, and too great", changed(func(h *api.House) { h.Loss = within(100001, 1) }), 0, api.ErrRange},
	}
	for _, s := range wrongNames() {
		l = append(l, wrongHouse{fmt.Sprintf("the name %q", s), changed(func(h *api.House) { h.People[3].Name = s }), 3, api.ErrName})
	}
	for _, n := range outside(0, 3) {
		l = append(l, wrongHouse{fmt.Sprint("the role ", n), changed(func(h *api.House) { h.People[2].Role = n }), 2, api.ErrKind})
	}
	for _, n := range outside(0, 100000) {
		l = append(l,
			wrongHouse{fmt.Sprint("a loss from ", n), changed(func(h *api.House) { h.Loss = within(n, 100000) }), 0, api.ErrRange},
			wrongHouse{fmt.Sprint("a loss up to ", n), changed(func(h *api.House) { h.Loss = within(0, n) }), 0, api.ErrRange})
	}
	return l
}

// people is so many of them.
func people(count int) []api.HousePerson {
	var l []api.HousePerson
	for n := range count {
		l = append(l, api.HousePerson{Name: fmt.Sprint("p", n), Role: n % 4})
	}
	return l
}

// A wrongLog is a log of home with an error, and the number of its entry.
type wrongLog struct {
	what string
	log  []api.HouseEntry
	n    int
	e    api.Errno
}

// wrongLogs is logs with errors, some of them with several.
func wrongLogs() []wrongLog {
	return []wrongLog{
		{"too many", times(61, "ann day 0"), 0, api.ErrLarge},
		{"too many, and wrong ones", times(61, "zoe walk"), 0, api.ErrLarge},
		{"the first one", entries("zoe day 0", "ann walk"), 0, api.ErrMissing},
		{"the last one", example("ann draw a 451"), 7, api.ErrNone},
		{"the last one that there may be", slices.Concat(times(59, "ann day 0"), entries("ann day x")), 59, api.ErrSyntax},
		{"the first one of several", example("ann day 1095", "ann seal a", "zoe day 1"), 8, api.ErrAllowed},
		{"an empty one", slices.Concat(example(), make([]api.HouseEntry, 1)), 7, api.ErrMissing},
	}
}

// An asking is a function that is asked of a house and a log, behind which it has a wrong argument if it has more of them.
type asking func(h api.House, log []api.HouseEntry) (bool, api.Errno)

func askings() map[string]asking {
	return map[string]asking{
		"StateOf": func(h api.House, log []api.HouseEntry) (bool, api.Errno) { return nothingOf(StateOf(h, log)) },
		"Accept": func(h api.House, log []api.HouseEntry) (bool, api.Errno) {
			return nothingOf(Accept(h, log, entryOfLine("zoe walk")))
		},
		"Merged": func(h api.House, log []api.HouseEntry) (bool, api.Errno) {
			return nothingOf(Merged(h, api.HouseBranches{Common: log, Second: entries("zoe walk")}))
		},
		"Merged, First": func(h api.House, log []api.HouseEntry) (bool, api.Errno) {
			return nothingOf(Merged(h, api.HouseBranches{First: log, Second: entries("zoe walk")}))
		},
		"Merged, Second": func(h api.House, log []api.HouseEntry) (bool, api.Errno) {
			return nothingOf(Merged(h, api.HouseBranches{Second: log}))
		},
		"Exchangeable": func(h api.House, log []api.HouseEntry) (bool, api.Errno) {
			return nothingOf(Exchangeable(h, api.HouseBranches{Common: log, Second: entries("zoe walk")}))
		},
		"Exchangeable, First": func(h api.House, log []api.HouseEntry) (bool, api.Errno) {
			return nothingOf(Exchangeable(h, api.HouseBranches{First: log, Second: entries("zoe walk")}))
		},
		"Exchangeable, Second": func(h api.House, log []api.HouseEntry) (bool, api.Errno) {
			return nothingOf(Exchangeable(h, api.HouseBranches{Second: log}))
		},
		"BalanceOf":   func(h api.House, log []api.HouseEntry) (bool, api.Errno) { return nothingOf(BalanceOf(h, log)) },
		"AgeOf":       func(h api.House, log []api.HouseEntry) (bool, api.Errno) { return nothingOf(AgeOf(h, log, "")) },
		"ClassOf":     func(h api.House, log []api.HouseEntry) (bool, api.Errno) { return nothingOf(ClassOf(h, log, "")) },
		"BookOf":      func(h api.House, log []api.HouseEntry) (bool, api.Errno) { return nothingOf(BookOf(h, log)) },
		"Suspects":    func(h api.House, log []api.HouseEntry) (bool, api.Errno) { return nothingOf(Suspects(h, log)) },
		"Unexplained": func(h api.House, log []api.HouseEntry) (bool, api.Errno) { return nothingOf(Unexplained(h, log)) },
		"Report":      func(h api.House, log []api.HouseEntry) (bool, api.Errno) { return nothingOf(Report(h, log)) },
		"Ask":         func(h api.House, log []api.HouseEntry) (bool, api.Errno) { return nothingOf(Ask(h, log, "")) },
	}
}

// allRefuse asks for an error of each asking, and for nothing beside it.
func allRefuse(t *testing.T, what string, h api.House, log []api.HouseEntry, e api.Errno) {
	t.Helper()
	for name, ask := range askings() {
		isNothing, f := ask(h, log)
		want(t, name+": "+what, isNothing, f, true, e)
	}
}

// A behind is an entry behind a log of home, and its error.
type behind struct {
	log  []api.HouseEntry
	line string
	e    api.Errno
}

// entered asks for what entries have behind logs, of all functions that accept them.
func entered(t *testing.T, l []behind) {
	t.Helper()
	for _, b := range l {
		x := entryOfLine(b.line)
		longer := slices.Concat(b.log, entries(b.line))
		got, e := Accept(home(), b.log, x)
		d := deskOf(t, home(), b.log)
		want(t, "Enter "+b.line, 0, d.Enter(x), 0, b.e)
		n, f := CheckLog(home(), longer)
		if b.e != api.OK {
			refused(t, "Accept "+b.line, got, e, b.e)
			want(t, "CheckLog "+b.line, n, f, len(b.log), b.e)
			want(t, "the desk behind "+b.line, d.Log(), 0, b.log, 0)
			continue
		}
		want(t, "Accept "+b.line, got, e, longer, api.OK)
		want(t, "CheckLog "+b.line, n, f, 0, api.OK)
		want(t, "the desk behind "+b.line, d.Log(), 0, longer, 0)
	}
}

// deskOf is a desk behind a right log.
func deskOf(t *testing.T, h api.House, log []api.HouseEntry) *Desk {
	t.Helper()
	d, e := New(h)
	want(t, "New", d != nil, e, true, api.OK)
	for _, x := range log {
		want(t, "Enter "+x.Text, 0, d.Enter(x), 0, api.OK)
	}
	return d
}

// stateOf is what a right log of home comes to.
func stateOf(t *testing.T, log []api.HouseEntry) api.HouseState {
	t.Helper()
	s, e := StateOf(home(), log)
	want(t, "StateOf", 0, e, 0, api.OK)
	return s
}
