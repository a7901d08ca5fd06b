package house

import (
	"testing"

	"criadera/api"
)

// TestDesk: P10.7.
func TestDesk(t *testing.T) {
	d := deskOf(t, home(), nil)
	want(t, "no entries", d.Log(), 0, nil, 0)
	want(t, "no entries", 0, d.Undo(), 0, api.ErrNone)
	want(t, "the first one", 0, d.Enter(entryOfLine("zoe day 1")), 0, api.ErrMissing)
	want(t, "no entries", d.Log(), 0, nil, 0)
	answer, e := d.Ask("balance")
	want(t, "no entries", answer, e, "0 0 0 0", api.OK)
	d = deskOf(t, home(), example())
	for _, line := range words("ann draw a 451", "ann walk", "zoe walk", "ann seal a", "ann day 1") {
		_, e := Accept(home(), example(), entryOfLine(line))
		want(t, line, 0, d.Enter(entryOfLine(line)), 0, e)
		want(t, line, d.Log(), 0, example(), 0)
	}
	for _, question := range words("balance", "cask a", "duty", "suspects", "unexplained", "certificate x", "cask x", "walk", "") {
		right, f := Ask(home(), example(), question)
		answer, e := d.Ask(question)
		want(t, question, answer, e, right, f)
	}
	for n := len(example()); n > 0; n-- {
		want(t, "undone", 0, d.Undo(), 0, api.OK)
		want(t, "undone", d.Log(), 0, example()[:n-1], 0)
	}
	want(t, "all undone", 0, d.Undo(), 0, api.ErrNone)
}

// TestUndoLeavesNoTrace: P10.7 and P10.10.
func TestUndoLeavesNoTrace(t *testing.T) {
	d := deskOf(t, home(), example())
	for _, line := range words("ann draw a 100", "ivy duty 7", "ann day 1200", "ivy seal a", "tom sheet a 1", "cy part x 1 2 3 4", "cy pay 9", "ann gauge a 1095 7 7", "cy loss a 0 0 5 5", "ann lose a 3") {
		want(t, line, 0, d.Enter(entryOfLine(line)), 0, api.OK)
		want(t, line, 0, d.Undo(), 0, api.OK)
		want(t, line, d.Log(), 0, example(), 0)
		want(t, "twice", 0, d.Enter(entryOfLine(line)), 0, api.OK)
		want(t, "twice", d.Log(), 0, example(line), 0)
		want(t, "twice", 0, d.Undo(), 0, api.OK)
		answer, e := d.Ask("cask a")
		want(t, line, answer, e, "a 450 - 7/5", api.OK)
		answer, e = d.Ask("duty")
		want(t, line, answer, e, "150 0", api.OK)
	}
}

// TestFullDesk: P10.7: behind an undone entry there is room for another one.
func TestFullDesk(t *testing.T) {
	d := deskOf(t, home(), times(60, "ann day 0"))
	want(t, "one more", 0, d.Enter(entryOfLine("ann day 0")), 0, api.ErrFull)
	want(t, "undone", 0, d.Undo(), 0, api.OK)
	want(t, "another one", 0, d.Enter(entryOfLine("ann cask a 5")), 0, api.OK)
	want(t, "one more", 0, d.Enter(entryOfLine("ann cask b 5")), 0, api.ErrFull)
}

// TestNoDesk: P10.7 and R5.
func TestNoDesk(t *testing.T) {
	var d *Desk
	want(t, "Enter", 0, d.Enter(entryOfLine("ann day 0")), 0, api.ErrNil)
	want(t, "Enter", 0, d.Enter(api.HouseEntry{}), 0, api.ErrNil)
	want(t, "Undo", 0, d.Undo(), 0, api.ErrNil)
	want(t, "Log", d.Log(), 0, nil, 0)
	for _, question := range words("balance", "") {
		answer, e := d.Ask(question)
		refused(t, "Ask", answer, e, api.ErrNil)
	}
}

// TestDesksAreTheirOwn: R3 and R4: desks share nothing with each other, with the house that they were told, or with what they return.
func TestDesksAreTheirOwn(t *testing.T) {
	h := home()
	one, other := deskOf(t, h, example()), deskOf(t, h, example())
	want(t, "one", 0, one.Enter(entryOfLine("ann draw a 1")), 0, api.OK)
	want(t, "the other", other.Log(), 0, example(), 0)
	h.People[0].Name, h.People[1].Role = "zoe", api.RoleCellar
	h.Rules.Marks[0], h.Rules.Begin = "", 2
	h.Rules.Classes[0].Next[1], h.Rules.Classes[0].Reasons[0] = 0, ""
	h.Rules.Classes[2].Name = ""
	log := one.Log()
	log[0] = entryOfLine("zoe walk")
	_ = append(log[:1], entryOfLine("zoe walk"))
	_ = append(one.Log(), entryOfLine("zoe walk"))
	want(t, "one", one.Log(), 0, example("ann draw a 1"), 0)
	want(t, "a taster", 0, one.Enter(entryOfLine("tom sheet a 1")), 0, api.OK)
	answer, e := one.Ask("cask a")
	want(t, "one", answer, e, "a 449 fino 7/5", api.OK)
	answer, e = other.Ask("cask a")
	want(t, "the other", answer, e, "a 450 - 7/5", api.OK)
}
