package scale

import (
	"fmt"
	"testing"

	"criadera/api"
)

// TestApply: P1.4.
func TestApply(t *testing.T) {
	s := stateOf(t, twoCasks)
	for _, x := range []struct{ act, text string }{
		{"cask c 5", "a 100 1 10:100;b 100 1 12:60;c 5 1;in 1 10:100 12:60;sold 1;lost 1"},
		{"fill b 401 40", "a 100 1 10:100;b 100 1 12:60 401:40;in 1 10:100 12:60 401:40;sold 1;lost 1"},
		{"draw b 60", "a 100 1 10:100;b 100 1;in 1 10:100 12:60;sold 1 12:60;lost 1"},
		{"lose b 1", "a 100 1 10:100;b 100 1 12:59;in 1 10:100 12:60;sold 1;lost 1 12:1"},
		{"move a b 40", "a 100 1 10:60;b 100 1 10:40 12:60;in 1 10:100 12:60;sold 1;lost 1"},
		{"join b a", "a 100 2 10:125 12:75;b 100 2 10:75 12:45;in 1 10:100 12:60;sold 1;lost 1"},
	} {
		y, e := Apply(s, actOf(t, x.act))
		want(t, x.act, FormatState(y), e, x.text, api.OK)
	}
	eleven := api.ScaleState{Casks: casksOf(11), In: wineOf(1), Sold: wineOf(1), Lost: wineOf(1)}
	twelve, e := Apply(eleven, actOf(t, "cask z 5"))
	want(t, "the twelfth cask", len(twelve.Casks), e, 12, api.OK)
	full := api.ScaleState{Casks: casksOf(12), In: wineOf(1), Sold: wineOf(1), Lost: wineOf(1)}
	for _, x := range []struct {
		s api.ScaleState
		a string
		e api.Errno
	}{
		{s, "cask a 5", api.ErrExists}, {full, "cask c11 5", api.ErrExists}, {full, "cask c12 5", api.ErrFull},
		{s, "fill c 1 1", api.ErrMissing}, {s, "draw c 1", api.ErrMissing}, {s, "lose c 1", api.ErrMissing}, {s, "move a c 101", api.ErrMissing}, {s, "move c a 1", api.ErrMissing}, {s, "join a b c", api.ErrMissing},
		{s, "draw b 61", api.ErrNone}, {s, "lose b 61", api.ErrNone}, {s, "move b a 61", api.ErrNone}, {full, "draw c0 1", api.ErrNone},
		{s, "fill b 401 41", api.ErrFull}, {s, "move b a 1", api.ErrFull}, {s, "move a b 41", api.ErrFull},
	} {
		y, e := Apply(x.s, actOf(t, x.a))
		want(t, x.a, y, e, api.ScaleState{}, x.e)
	}
	wrong := s
	wrong.In = wineOf(1)
	_, e = Apply(wrong, api.ScaleAct{Kind: 6})
	want(t, "a wrong state ahead of a wrong act", 0, e, 0, api.ErrSum)
	_, e = Apply(s, api.ScaleAct{Kind: 6})
	want(t, "a wrong act", 0, e, 0, api.ErrKind)
	_, e = Apply(s, api.ScaleAct{Kind: api.ScaleDraw, Casks: []string{"z"}})
	want(t, "a wrong act ahead of its cask", 0, e, 0, api.ErrRange)
}

// TestApplyTooLarge: P1.4.
func TestApplyTooLarge(t *testing.T) {
	prime := 999999999989 // a third of such a wine has a denominator that is too large
	third := wineOf(prime, 1, 1, 2, 3*prime-1)
	of := func(in, sold, lost api.ScaleWine, casks ...api.ScaleCask) api.ScaleState {
		return api.ScaleState{Casks: casks, In: in, Sold: sold, Lost: lost}
	}
	a := api.ScaleCask{Name: "a", Capacity: 100, Wine: third}
	b := api.ScaleCask{Name: "b", Capacity: 100, Wine: wineOf(1)}
	many := api.ScaleCask{Name: "a", Capacity: 100, Wine: manyOf(0, 60)}
	for _, x := range []struct {
		what, a string
		s       api.ScaleState
		e       api.Errno
	}{
		{"the rest", "draw a 1", of(third, wineOf(1), wineOf(1), a), api.ErrLarge},
		{"the rest", "move a b 1", of(third, wineOf(1), wineOf(1), a, b), api.ErrLarge},
		{"nothing of all", "draw a 3", of(third, wineOf(1), wineOf(1), a), api.OK},
		{"nothing of all", "lose a 3", of(third, wineOf(1), wineOf(1), a), api.OK},
		{"nothing of all", "move a b 3", of(third, wineOf(1), wineOf(1), a, b), api.OK},
		{"nothing of an empty cask", "join a b", of(third, wineOf(1), wineOf(1), a, b), api.OK},
		{"the parts of a cask", "fill a 60 1", of(manyOf(0, 60), wineOf(1), wineOf(1), many), api.ErrLarge},
		{"nothing of 60 parts", "fill a 59 1", of(manyOf(0, 60), wineOf(1), wineOf(1), many), api.OK},
		{"the parts of In", "fill b 60 1", of(manyOf(0, 60), manyOf(0, 60), wineOf(1), b), api.ErrLarge},
		{"the volume of In", "fill b 1 1", of(wineOf(1, 1, 2000000), wineOf(1), wineOf(1, 1, 2000000), b), api.ErrLarge},
		{"nothing of In", "fill b 1 1", of(wineOf(1, 1, 1999999), wineOf(1), wineOf(1, 1, 1999999), b), api.OK},
	} {
		_, e := Apply(x.s, actOf(t, x.a))
		want(t, x.what+" by "+x.a, 0, e, 0, x.e)
	}
}

// TestWhatNeedNotBeSmall: P1.4, P1.11 and R6: wines that are too large on the way to small ones.
func TestWhatNeedNotBeSmall(t *testing.T) {
	two := 1 << 39
	// What is drawn has the denominator 3 times 2^39, the rest 3 times 2^38, and what is sold then 3 times 2^37.
	cask, sold := wineOf(two, 1, 1, 2, 3*two-1), wineOf(two, 1, 1, 2, two-1)
	s := api.ScaleState{Casks: []api.ScaleCask{{Name: "a", Capacity: 3, Wine: cask}}, In: wineOf(two/2, 1, 1, 2, 2*two-1), Sold: sold, Lost: wineOf(1)}
	draw := api.ScaleAct{Kind: api.ScaleDraw, Casks: []string{"a"}, Volume: 1}
	x, e := Apply(s, draw)
	want(t, "the rest", x.Casks[0].Wine, e, wineOf(3*two/2, 1, 1, 2, 3*two-1), api.OK)
	want(t, "what is sold", x.Sold, 0, wineOf(3*two/4, 1, 1, 2, 3*two/2-1), 0)
	w, e := TakenBy(s, draw)
	want(t, "what is drawn", w, e, api.ScaleWine{}, api.ErrLarge)
	// Of the joined wine the source 1 has 5 parts of 6d, in the casks 2 and 3 of them.
	d := 299999999999
	a, b, c := wineOf(3*d, 1, 1, 2, 6*d-1), wineOf(2*d, 1, 1, 2, 6*d-1), wineOf(3*d, 1, 2, 2, 3*d-2)
	if _, e := Mixed(a, b); e != api.ErrLarge {
		t.Fatalf("the mixture is small: %d", e)
	}
	s = api.ScaleState{Casks: []api.ScaleCask{{Name: "a", Capacity: 9, Wine: a}, {Name: "b", Capacity: 9, Wine: b}, {Name: "c", Capacity: 9, Wine: c}}, In: wineOf(2*d, 1, 3, 2, 12*d-3), Sold: wineOf(1), Lost: wineOf(1)}
	x, e = Apply(s, api.ScaleAct{Kind: api.ScaleJoin, Casks: []string{"a", "b"}})
	want(t, "joined already", FormatState(x), e, FormatState(s), api.OK)
}

// TestTakenBy: P1.4.
func TestTakenBy(t *testing.T) {
	s := stateOf(t, "a 100 4 1:225 2:175;b 100 1;in 4 1:225 2:175;sold 1;lost 1")
	for _, x := range []struct {
		act string
		w   api.ScaleWine
		e   api.Errno
	}{
		{"draw a 50", wineOf(8, 1, 225, 2, 175), api.OK},
		{"move a b 100", wineOf(4, 1, 225, 2, 175), api.OK},
		{"lose a 4", wineOf(4, 1, 9, 2, 7), api.OK},
		{"fill a 1 1", wineOf(0), api.ErrFull},
		{"fill b 1 1", wineOf(0), api.ErrKind},
		{"cask b 1", wineOf(0), api.ErrExists},
		{"cask c 1", wineOf(0), api.ErrKind},
		{"join a c", wineOf(0), api.ErrMissing},
		{"join a b", wineOf(0), api.ErrKind},
		{"draw b 1", wineOf(0), api.ErrNone},
	} {
		w, e := TakenBy(s, actOf(t, x.act))
		want(t, x.act, w, e, x.w, x.e)
	}
	_, e := TakenBy(s, api.ScaleAct{Kind: 6})
	want(t, "a wrong act", 0, e, 0, api.ErrKind)
	s.Sold = wineOf(2)
	_, e = TakenBy(s, api.ScaleAct{Kind: 6})
	want(t, "a wrong state", 0, e, 0, api.ErrForm)
}

// TestReplay: P1.4.
func TestReplay(t *testing.T) {
	s := stateOf(t, twoCasks)
	x, n, e := Replay(s, actsOfTexts(t, "move a b 30", "draw b 45", "join a b"))
	want(t, "an example", FormatState(x), e, "a 100 23 10:1190 12:420;b 100 23 10:765 12:270;in 1 10:100 12:60;sold 1 10:15 12:30;lost 1", api.OK)
	want(t, "its number", n, 0, 0, 0)
	x, n, e = Replay(s, nil)
	want(t, "no acts", FormatState(x), e, twoCasks, api.OK)
	want(t, "its number", n, 0, 0, 0)
	x, n, e = Replay(s, actsOfTexts(t, "move a b 30", "move a b 30", "draw z 1"))
	want(t, "a wrong act", n, e, 1, api.ErrFull)
	want(t, "its state", x, 0, api.ScaleState{}, 0)
	_, n, e = Replay(s, append(actsOfTexts(t, "draw a 1", "draw a 1"), api.ScaleAct{Kind: 9}))
	want(t, "an act that is none", n, e, 2, api.ErrKind)
	x, n, e = Replay(s, actsOfTexts(t, "cask c 9", "move a c 9", "cask c 9"))
	want(t, "a cask that was added", n, e, 2, api.ErrExists)
	var many []api.ScaleAct
	for i := range 201 {
		many = append(many, actOf(t, fmt.Sprintf("draw %c 1", "ab"[i%2])))
	}
	_, n, e = Replay(s, many)
	want(t, "201 acts", n, e, 0, api.ErrLarge)
	_, n, e = Replay(s, many[:200])
	want(t, "200 acts", n, e, 121, api.ErrNone)
	s.Lost = wineOf(0)
	_, n, e = Replay(s, many)
	want(t, "a wrong state ahead of too many acts", n, e, 0, api.ErrRange)
}

// TestStatesShareNoMemory: R3.
func TestStatesShareNoMemory(t *testing.T) {
	for _, act := range []string{"cask c 5", "fill b 401 40", "draw b 60", "lose b 1", "move a b 40", "join a b"} {
		s := stateOf(t, twoCasks)
		s.Casks = append(make([]api.ScaleCask, 0, 9), s.Casks...)
		a := actOf(t, act)
		once, _ := Apply(s, a)
		again, _, _ := Replay(s, []api.ScaleAct{a})
		text := FormatState(once)
		scribble(again)
		want(t, "the state ahead of "+act, FormatState(s), 0, twoCasks, 0)
		want(t, "the other state behind "+act, FormatState(once), 0, text, 0)
		want(t, "the act", FormatAct(a), 0, act, 0)
		once.Casks[0].Wine.Parts[0].Amount = -1
		if len(once.Casks[1].Wine.Parts) > 0 && once.Casks[1].Wine.Parts[0].Amount == -1 {
			t.Errorf("%s: two casks share memory", act)
		}
		taken, e := TakenBy(s, actOf(t, "draw a 100"))
		if e != api.OK {
			t.Fatal(e)
		}
		taken.Parts[0].Amount = -1
		want(t, "the state of which was taken", FormatState(s), 0, twoCasks, 0)
	}
	s := stateOf(t, twoCasks)
	x, _, _ := Replay(s, nil)
	scribble(x)
	want(t, "the state ahead of nothing", FormatState(s), 0, twoCasks, 0)
}
