package scale

import (
	"fmt"
	"slices"
	"testing"

	"criadera/api"
)

// systemWith is a right system of the casks a (100 of 100) and b (0 of 50) that is changed.
func systemWith(change func(s *api.ScaleSystem)) api.ScaleSystem {
	s := api.ScaleSystem{Name: "s", Casks: []api.ScaleVessel{{Name: "a", Capacity: 100, Start: 100}, {Name: "b", Capacity: 50}}, Days: []int{80, 260}}
	change(&s)
	return s
}

// systemBy is such a system with steps.
func systemBy(t *testing.T, texts ...string) api.ScaleSystem {
	t.Helper()
	return systemWith(func(s *api.ScaleSystem) { s.Steps = actsOfTexts(t, texts...) })
}

// TestCheckSystem: P1.6.
func TestCheckSystem(t *testing.T) {
	by := func(texts ...string) api.ScaleSystem { return systemBy(t, texts...) }
	with := systemWith
	vessel := func(name string, capacity, start int) api.ScaleSystem {
		return with(func(s *api.ScaleSystem) {
			s.Casks[1] = api.ScaleVessel{Name: name, Capacity: capacity, Start: start}
			s.Days = nil
		})
	}
	days := func(l ...int) api.ScaleSystem { return with(func(s *api.ScaleSystem) { s.Days = l }) }
	step := func(a api.ScaleAct) api.ScaleSystem {
		return with(func(s *api.ScaleSystem) { s.Steps = append(actsOfTexts(t, "draw a 1"), a) })
	}
	var casks []api.ScaleVessel
	for _, name := range namesOf(13) {
		casks = append(casks, api.ScaleVessel{Name: name, Capacity: 1, Start: 1})
	}
	var steps []api.ScaleAct
	for range 20 {
		steps = append(steps, actsOfTexts(t, "draw a 25", "fill a 0 25")...)
	}
	for _, x := range []struct {
		what string
		s    api.ScaleSystem
		m    api.ScaleMark
		e    api.Errno
	}{
		{"no steps", by(), api.ScaleMark{}, api.OK},
		{"steps", by("draw a 25", "fill a 0 25"), api.ScaleMark{}, api.OK},
		{"a cask that is empty at the start and the end", by("move a b 50", "join a b", "move b a 50"), api.ScaleMark{}, api.OK},
		{"no name, and nothing else", api.ScaleSystem{}, api.ScaleMark{}, api.ErrName},
		{"no casks", api.ScaleSystem{Name: "s"}, api.ScaleMark{}, api.ErrShape},
		{"12 casks", with(func(s *api.ScaleSystem) { s.Casks = casks[:12] }), api.ScaleMark{}, api.OK},
		{"13 casks", with(func(s *api.ScaleSystem) { s.Casks = casks; casks[0].Capacity = 1 }), api.ScaleMark{}, api.ErrLarge},
		{"a wrong name of a cask", vessel("b_", 0, 0), api.ScaleMark{List: api.ScaleVessels, Number: 1}, api.ErrName},
		{"no capacity", vessel("a", 0, 0), api.ScaleMark{List: api.ScaleVessels, Number: 1}, api.ErrRange},
		{"too great a capacity", vessel("b", api.MaxVolume+1, 0), api.ScaleMark{List: api.ScaleVessels, Number: 1}, api.ErrRange},
		{"more at the start than the capacity", vessel("b", 5, 6), api.ScaleMark{List: api.ScaleVessels, Number: 1}, api.ErrRange},
		{"less than nothing at the start", vessel("b", 5, -1), api.ScaleMark{List: api.ScaleVessels, Number: 1}, api.ErrRange},
		{"the same name", vessel("a", 5, 5), api.ScaleMark{List: api.ScaleVessels, Number: 1}, api.ErrExists},
		{"no days", vessel("b", api.MaxVolume, api.MaxVolume), api.ScaleMark{}, api.ErrShape},
		{"12 days", days(0, 1, 2, 3, 4, 5, 6, 7, 8, 9, 10, 364), api.ScaleMark{}, api.OK},
		{"13 days", days(0, 1, 2, 3, 4, 5, 6, 7, 8, 9, 10, 364, 365), api.ScaleMark{}, api.ErrLarge},
		{"a day behind the year", days(5, 365), api.ScaleMark{List: api.ScaleDays, Number: 1}, api.ErrRange},
		{"a day ahead of the year", days(-1), api.ScaleMark{List: api.ScaleDays}, api.ErrRange},
		{"a day twice", days(4, 5, 5, 365), api.ScaleMark{List: api.ScaleDays, Number: 2}, api.ErrOrder},
		{"40 steps", with(func(s *api.ScaleSystem) { s.Steps = steps }), api.ScaleMark{}, api.OK},
		{"41 steps", with(func(s *api.ScaleSystem) { s.Steps = append(steps[:40:40], api.ScaleAct{}) }), api.ScaleMark{}, api.ErrLarge},
		{"a step that adds a cask", step(api.ScaleAct{Kind: api.ScaleAdd}), api.ScaleMark{List: api.ScaleSteps, Number: 1}, api.ErrKind},
		{"a step that loses", step(api.ScaleAct{Kind: api.ScaleLose}), api.ScaleMark{List: api.ScaleSteps, Number: 1}, api.ErrKind},
		{"a step of no kind", step(api.ScaleAct{Kind: 6}), api.ScaleMark{List: api.ScaleSteps, Number: 1}, api.ErrKind},
		{"a step without a cask", step(api.ScaleAct{Kind: api.ScaleDraw}), api.ScaleMark{List: api.ScaleSteps, Number: 1}, api.ErrShape},
		{"a step with a source above all", step(api.ScaleAct{Kind: api.ScaleFill, Casks: []string{"z"}, Source: 403, Volume: 1}), api.ScaleMark{List: api.ScaleSteps, Number: 1}, api.ErrRange},
		{"a step with a source", step(api.ScaleAct{Kind: api.ScaleFill, Casks: []string{"z"}, Source: 1, Volume: 1}), api.ScaleMark{List: api.ScaleSteps, Number: 1}, api.ErrForm},
		{"a step without its cask", by("draw a 1", "fill z 0 1"), api.ScaleMark{List: api.ScaleSteps, Number: 1}, api.ErrMissing},
		{"a join without its cask", by("join a z"), api.ScaleMark{List: api.ScaleSteps}, api.ErrMissing},
		{"a draw of too much", by("draw a 60", "draw a 41"), api.ScaleMark{List: api.ScaleSteps, Number: 1}, api.ErrNone},
		{"a move of too much", by("draw a 60", "move a b 41"), api.ScaleMark{List: api.ScaleSteps, Number: 1}, api.ErrNone},
		{"a fill of too much", by("draw a 60", "fill a 0 61"), api.ScaleMark{List: api.ScaleSteps, Number: 1}, api.ErrFull},
		{"a move to a full cask", by("move a b 50", "move a b 1"), api.ScaleMark{List: api.ScaleSteps, Number: 1}, api.ErrFull},
		{"less at the end", by("draw a 25", "fill a 0 24"), api.ScaleMark{}, api.ErrOpen},
		{"more at the end", by("fill b 0 1"), api.ScaleMark{}, api.ErrOpen},
		{"a wrong step ahead of the end", by("draw a 25", "fill b 0 51"), api.ScaleMark{List: api.ScaleSteps, Number: 1}, api.ErrFull},
	} {
		m, e := CheckSystem(x.s)
		want(t, x.what, m, e, x.m, x.e)
	}
}

// TestVolumesAt: P1.6.
func TestVolumesAt(t *testing.T) {
	s := systemBy(t, "move a b 40", "draw b 5", "join a b", "fill b 0 5", "move b a 40")
	for step, volumes := range [][]int{{100, 0}, {60, 40}, {60, 35}, {60, 35}, {60, 40}, {100, 0}} {
		v, e := VolumesAt(s, step)
		want(t, fmt.Sprint("behind ", step), v, e, volumes, api.OK)
	}
	for _, step := range []int{-1, 6} {
		v, e := VolumesAt(s, step)
		want(t, fmt.Sprint("behind ", step), v, e, nil, api.ErrRange)
	}
	v, e := VolumesAt(systemBy(t, "draw a 1"), 9)
	want(t, "of a wrong system", v, e, nil, api.ErrOpen)
}

// TestStartOf: P1.7.
func TestStartOf(t *testing.T) {
	s := systemWith(func(s *api.ScaleSystem) {
		s.Casks = append(s.Casks, api.ScaleVessel{Name: "c", Capacity: 100000, Start: 99999})
	})
	for _, source := range []int{0, 7, api.ScaleSpirit, api.ScaleMust} {
		x, e := StartOf(s, source)
		want(t, "the start", FormatState(x), e, fmt.Sprintf("a 100 1 %d:100;b 50 1;c 100000 1 %d:99999;in 1 %d:100099;sold 1;lost 1", source, source, source), api.OK)
		_, e = CheckState(x)
		want(t, "its error", 0, e, 0, api.OK)
	}
	empty, e := StartOf(api.ScaleSystem{Name: "s", Casks: []api.ScaleVessel{{Name: "a", Capacity: 1}}, Days: []int{0}}, 7)
	want(t, "no wine", FormatState(empty), e, "a 1 1;in 1;sold 1;lost 1", api.OK)
	for _, source := range []int{-1, 403} {
		x, e := StartOf(s, source)
		want(t, "a wrong source", x, e, api.ScaleState{}, api.ErrRange)
	}
	s.Days = nil
	x, e := StartOf(s, 403)
	want(t, "a wrong system", x, e, api.ScaleState{}, api.ErrShape)
}

// TestActsOf: P1.7.
func TestActsOf(t *testing.T) {
	s := systemBy(t, "move a b 40", "draw b 5", "join a b", "fill b 0 5", "move b a 40")
	l, e := ActsOf(s, api.ScaleMust)
	want(t, "the acts", eachOf(l, FormatAct), e, []string{"move a b 40", "draw b 5", "join a b", "fill b 402 5", "move b a 40"}, api.OK)
	for _, a := range l {
		want(t, FormatAct(a), 0, CheckAct(a), 0, api.OK)
		a.Casks[0] = "gone"
	}
	want(t, "the system behind it", FormatAct(s.Steps[0]), 0, "move a b 40", 0)
	l, e = ActsOf(systemBy(t), 0)
	want(t, "no steps", l, e, nil, api.OK)
	for _, source := range []int{-1, 403} {
		l, e = ActsOf(s, source)
		want(t, "a wrong source", l, e, nil, api.ErrRange)
	}
	l, e = ActsOf(systemBy(t, "draw a 1"), 403)
	want(t, "a wrong system", l, e, nil, api.ErrOpen)
}

// TestYearOf: P1.7.
func TestYearOf(t *testing.T) {
	s := systemOf(t, oneSystem)
	year, e := YearOf(s, 400)
	want(t, "the days", eachOf(year, func(d api.ScaleDated) int { return d.Day }), e, []int{80, 80, 260, 260}, api.OK)
	want(t, "the acts", eachOf(year, func(d api.ScaleDated) string { return FormatAct(d.Act) }), 0, []string{"draw a 25", "fill a 400 25", "draw a 25", "fill a 400 25"}, 0)
	year[0].Act.Casks[0] = "gone"
	want(t, "the same act of the other day", FormatAct(year[2].Act), 0, "draw a 25", 0)
	want(t, "the system behind it", FormatAct(s.Steps[0]), 0, "draw a 25", 0)
	year, e = YearOf(s, 0)
	want(t, "the vintage 0", FormatAct(year[3].Act), e, "fill a 0 25", api.OK)
	year, e = YearOf(s, 8)
	start, _ := StartOf(s, 7)
	end, _, _ := Replay(start, eachOf(year, func(d api.ScaleDated) api.ScaleAct { return d.Act }))
	want(t, "the end of a year", FormatState(end), e, "a 100 4 7:225 8:175;in 1 7:100 8:50;sold 4 7:175 8:25;lost 1", api.OK)
	for _, vintage := range []int{-1, 401} {
		year, e = YearOf(s, vintage)
		want(t, "no vintage", year, e, nil, api.ErrRange)
	}
	year, e = YearOf(systemBy(t, "draw a 1"), 401)
	want(t, "a wrong system", year, e, nil, api.ErrOpen)
}

// TestClassic: P1.7.
func TestClassic(t *testing.T) {
	of := func(scales, casks int, joined bool) api.ScaleClassic {
		return api.ScaleClassic{Name: "c", Scales: scales, Casks: casks, Capacity: 100, Draw: 25, Joined: joined, Days: []int{80, 90}}
	}
	for _, x := range []struct {
		c    api.ScaleClassic
		text string
	}{
		{of(1, 1, true), "system c\ncask c0-0 100 100\ndays 80 90\ndraw c0-0 25\nfill c0-0 25\n"},
		{of(1, 2, true), "system c\ncask c0-0 100 100\ncask c0-1 100 100\ndays 80 90\ndraw c0-0 25\ndraw c0-1 25\nfill c0-0 25\nfill c0-1 25\njoin c0-0 c0-1\n"},
		{of(2, 2, true), "system c\ncask c0-0 100 100\ncask c0-1 100 100\ncask c1-0 100 100\ncask c1-1 100 100\ndays 80 90\ndraw c0-0 25\ndraw c0-1 25\nmove c1-0 c0-0 25\nmove c1-1 c0-1 25\njoin c0-0 c0-1\nfill c1-0 25\nfill c1-1 25\njoin c1-0 c1-1\n"},
		{of(3, 1, true), "system c\ncask c0-0 100 100\ncask c1-0 100 100\ncask c2-0 100 100\ndays 80 90\ndraw c0-0 25\nmove c1-0 c0-0 25\nmove c2-0 c1-0 25\nfill c2-0 25\n"},
		{of(2, 2, false), "system c\ncask c0-0 100 100\ncask c0-1 100 100\ncask c1-0 100 100\ncask c1-1 100 100\ndays 80 90\ndraw c0-0 25\ndraw c0-1 25\nmove c1-0 c0-0 25\nmove c1-1 c0-1 25\nfill c1-0 25\nfill c1-1 25\n"},
	} {
		s, e := Classic(x.c)
		text, f := Print(s)
		want(t, "classic", text, e, x.text, f)
		s.Days[0] = 1
		want(t, "its days", x.c.Days, 0, []int{80, 90}, 0)
	}
	with := func(change func(c *api.ScaleClassic)) api.ScaleClassic {
		c := of(2, 2, true)
		change(&c)
		return c
	}
	for _, x := range []struct {
		what string
		c    api.ScaleClassic
		e    api.Errno
	}{
		{"no name", api.ScaleClassic{}, api.ErrName},
		{"no scales", of(0, 2, true), api.ErrRange},
		{"13 scales", of(13, 1, true), api.ErrRange},
		{"no casks", of(2, 0, true), api.ErrRange},
		{"13 casks", of(1, 13, true), api.ErrRange},
		{"12 scales", of(12, 1, true), api.OK},
		{"12 casks", of(1, 12, true), api.OK},
		{"4 by 4", of(4, 4, false), api.ErrLarge},
		{"12 by 12", of(12, 12, true), api.ErrLarge},
		{"no capacity", with(func(c *api.ScaleClassic) { c.Capacity, c.Draw = 0, 0 }), api.ErrRange},
		{"too great a capacity", with(func(c *api.ScaleClassic) { c.Capacity = api.MaxVolume + 1 }), api.ErrRange},
		{"the greatest capacity", with(func(c *api.ScaleClassic) { c.Capacity, c.Draw = api.MaxVolume, api.MaxVolume }), api.OK},
		{"no draw", with(func(c *api.ScaleClassic) { c.Draw = 0 }), api.ErrRange},
		{"the least capacity, and the least draw", with(func(c *api.ScaleClassic) { c.Capacity, c.Draw = 1, 1 }), api.OK},
		{"a draw of all", with(func(c *api.ScaleClassic) { c.Draw = 100 }), api.OK},
		{"a draw of more", with(func(c *api.ScaleClassic) { c.Draw, c.Days = 101, nil }), api.ErrRange},
		{"no days", with(func(c *api.ScaleClassic) { c.Days = nil }), api.ErrShape},
		{"a wrong order of days", with(func(c *api.ScaleClassic) { slices.Reverse(c.Days) }), api.ErrOrder},
		{"a day behind the year", with(func(c *api.ScaleClassic) { c.Days = []int{365} }), api.ErrRange},
	} {
		s, e := Classic(x.c)
		if x.e != api.OK {
			want(t, x.what, s, e, api.ScaleSystem{}, x.e)
		}
		want(t, x.what, 0, e, 0, x.e)
	}
}
