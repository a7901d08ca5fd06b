package house

import (
	"slices"
	"testing"

	"criadera/api"
)

// TestCheckHouse: P10.1.
func TestCheckHouse(t *testing.T) {
	for what, h := range map[string]api.House{
		"the chapter's house": home(),
		"one person":          changed(func(h *api.House) { h.People = people(1) }),
		"the most people":     changed(func(h *api.House) { h.People = people(20) }),
		"all of one role":     changed(func(h *api.House) { h.People[0].Role, h.People[1].Role, h.People[2].Role = 3, 3, 3 }),
		"no loss":             changed(func(h *api.House) { h.Loss = api.Range{} }),
		"the greatest loss":   changed(func(h *api.House) { h.Loss = within(100000, 100000) }),
		"any loss":            changed(func(h *api.House) { h.Loss = within(0, 100000) }),
	} {
		n, e := CheckHouse(h)
		want(t, what, n, e, 0, api.OK)
		n, e = CheckLog(h, nil)
		want(t, what, n, e, 0, api.OK)
		d, e := New(h)
		want(t, what, d != nil, e, true, api.OK)
	}
	for _, x := range wrongHouses() {
		n, e := CheckHouse(x.h)
		want(t, x.what, n, e, x.n, x.e)
	}
}

// TestWrongHouses: P10.2, P10.3, P10.4, P10.5 and P10.7: the error of the house comes ahead of all others.
func TestWrongHouses(t *testing.T) {
	for _, x := range wrongHouses() {
		n, e := CheckLog(x.h, times(61, "zoe walk"))
		want(t, "CheckLog: "+x.what, n, e, 0, x.e)
		n, e = CheckLog(x.h, entries("ann day 0", "ann walk"))
		want(t, "CheckLog: "+x.what, n, e, 0, x.e)
		allRefuse(t, x.what, x.h, times(61, "zoe walk"), x.e)
		d, e := New(x.h)
		want(t, "New: "+x.what, d == nil, e, true, x.e)
	}
}

// TestWrongLogs: P10.2, P10.3, P10.4 and P10.5: the error of the log comes next.
func TestWrongLogs(t *testing.T) {
	for _, x := range wrongLogs() {
		n, e := CheckLog(home(), x.log)
		want(t, "CheckLog: "+x.what, n, e, x.n, x.e)
		allRefuse(t, x.what, home(), x.log, x.e)
	}
}

// TestLongestLog: P10.2: a log may have MaxHouseLog entries, and no more are accepted, whatever they are.
func TestLongestLog(t *testing.T) {
	longest := times(60, "ann day 0")
	n, e := CheckLog(home(), longest)
	want(t, "the longest log", n, e, 0, api.OK)
	entered(t, []behind{{longest[:59], "ann day 0", api.OK}, {longest[:59], "zoe day 0", api.ErrMissing}})
	for _, line := range words("ann day 0", "zoe day 0", "ann walk", "ann seal a", "ann day") {
		log, e := Accept(home(), longest, entryOfLine(line))
		refused(t, line, log, e, api.ErrFull)
		d := deskOf(t, home(), longest)
		want(t, line, 0, d.Enter(entryOfLine(line)), 0, api.ErrFull)
		want(t, line, d.Log(), 0, longest, 0)
	}
	log, e := Accept(home(), slices.Concat(longest, longest[:1]), entryOfLine("ann day 0"))
	refused(t, "one too many", log, e, api.ErrLarge)
}
