package scale

import (
	"fmt"
	"math/big"
	"math/rand"
	"slices"
	"testing"

	"criadera/api"
)

// plain is a wine as fractions of decilitres by their sources: the chapter told anew, without limits.
type plain map[int]*big.Rat

func plainOf(w api.ScaleWine) plain {
	p := plain{}
	for _, x := range w.Parts {
		p[x.Source] = big.NewRat(int64(x.Amount), int64(w.Den))
	}
	return p
}

func (p plain) plus(q plain) plain {
	out := plain{}
	for _, x := range []plain{p, q} {
		for source, amount := range x {
			if out[source] == nil {
				out[source] = new(big.Rat)
			}
			out[source].Add(out[source], amount)
		}
	}
	return out
}

func (p plain) times(by *big.Rat) plain {
	out := plain{}
	for source, amount := range p {
		if by.Sign() > 0 {
			out[source] = new(big.Rat).Mul(amount, by)
		}
	}
	return out
}

func (p plain) volume() *big.Rat {
	sum := new(big.Rat)
	for _, amount := range p {
		sum.Add(sum, amount)
	}
	return sum
}

// wine is the wine in lowest terms; ok is false if it is too large.
func (p plain) wine() (w api.ScaleWine, ok bool) {
	den := big.NewInt(1)
	for _, amount := range p {
		d := new(big.Int).GCD(nil, nil, den, amount.Denom())
		den.Mul(den, new(big.Int).Quo(amount.Denom(), d))
	}
	if !den.IsInt64() || den.Int64() > api.MaxScaleDen || len(p) > api.MaxScaleParts || p.volume().Cmp(big.NewRat(api.MaxScaleTotal, 1)) > 0 {
		return w, false
	}
	w.Den = int(den.Int64())
	for source := range 403 {
		if p[source] == nil {
			continue
		}
		amount := new(big.Rat).Mul(p[source], new(big.Rat).SetInt(den)).Num()
		if !amount.IsInt64() || amount.Int64() > api.MaxScaleAmount {
			return api.ScaleWine{}, false
		}
		w.Parts = append(w.Parts, api.ScalePart{Source: source, Amount: int(amount.Int64())})
	}
	return w, true
}

// plainly is what a right act does to a right state, as the chapter tells it.
func plainly(s api.ScaleState, a api.ScaleAct) (api.ScaleState, api.Errno) {
	find := func(name string) int {
		return slices.IndexFunc(s.Casks, func(c api.ScaleCask) bool { return c.Name == name })
	}
	s.Casks = slices.Clone(s.Casks)
	if a.Kind == api.ScaleAdd {
		switch {
		case find(a.Casks[0]) >= 0:
			return api.ScaleState{}, api.ErrExists
		case len(s.Casks) == api.MaxScaleCasks:
			return api.ScaleState{}, api.ErrFull
		}
		s.Casks = append(s.Casks, api.ScaleCask{Name: a.Casks[0], Capacity: a.Volume, Wine: api.ScaleWine{Den: 1}})
		return s, api.OK
	}
	var at []int
	for _, name := range a.Casks {
		if find(name) < 0 {
			return api.ScaleState{}, api.ErrMissing
		}
		at = append(at, find(name))
	}
	in, sold, lost := plainOf(s.In), plainOf(s.Sold), plainOf(s.Lost)
	wines := map[int]plain{}
	all := plain{}
	for _, i := range at {
		wines[i] = plainOf(s.Casks[i].Wine)
		all = all.plus(wines[i])
	}
	first, last := at[0], at[len(at)-1]
	volume := big.NewRat(int64(a.Volume), 1)
	taken := plain{}
	if a.Kind == api.ScaleDraw || a.Kind == api.ScaleMove || a.Kind == api.ScaleLose {
		whole := wines[first].volume()
		if whole.Cmp(volume) < 0 {
			return api.ScaleState{}, api.ErrNone
		}
		taken = wines[first].times(new(big.Rat).Quo(volume, whole))
		wines[first] = wines[first].times(new(big.Rat).Quo(new(big.Rat).Sub(whole, volume), whole))
	}
	switch a.Kind {
	case api.ScaleFill:
		new := plain{a.Source: volume}
		wines[first], in = wines[first].plus(new), in.plus(new)
	case api.ScaleDraw:
		sold = sold.plus(taken)
	case api.ScaleMove:
		wines[last] = wines[last].plus(taken)
	case api.ScaleLose:
		lost = lost.plus(taken)
	case api.ScaleJoin:
		for _, i := range at {
			if all.volume().Sign() > 0 {
				wines[i] = all.times(new(big.Rat).Quo(wines[i].volume(), all.volume()))
			}
		}
	}
	if (a.Kind == api.ScaleFill || a.Kind == api.ScaleMove) && wines[last].volume().Cmp(big.NewRat(int64(s.Casks[last].Capacity), 1)) > 0 {
		return api.ScaleState{}, api.ErrFull
	}
	var ok [4]bool
	s.In, ok[0] = in.wine()
	s.Sold, ok[1] = sold.wine()
	s.Lost, ok[2] = lost.wine()
	ok[3] = true
	for i, w := range wines {
		wine, small := w.wine()
		s.Casks[i].Wine = wine
		ok[3] = ok[3] && small
	}
	if ok != [4]bool{true, true, true, true} {
		return api.ScaleState{}, api.ErrLarge
	}
	return s, api.OK
}

// someAct is an act that is right by itself; volumes are told in few sizes, so that wines stay small for a while.
func someAct(r *rand.Rand) api.ScaleAct {
	names := []string{"a", "b", "c", "d", "e"}
	r.Shuffle(len(names), func(i, k int) { names[i], names[k] = names[k], names[i] })
	a := api.ScaleAct{Kind: r.Intn(7), Volume: []int{7, 10, 13, 20, 25, 50, 90}[r.Intn(7)]}
	a.Kind = min(a.Kind, api.ScaleJoin)
	a.Casks = names[:1]
	switch a.Kind {
	case api.ScaleAdd:
		a.Volume *= 3
	case api.ScaleFill:
		a.Source = r.Intn(403)
	case api.ScaleMove:
		a.Casks = names[:2]
	case api.ScaleJoin:
		a.Casks, a.Volume = names[:2+r.Intn(2)], 0
	}
	return a
}

// TestEveryDrop compares random acts with the plain way, and asks for what P1.9, P1.11 and P1.13 promise.
func TestEveryDrop(t *testing.T) {
	r := rand.New(rand.NewSource(3))
	seen := map[api.Errno]int{}
	for range 200 {
		s := stateOf(t, "a 300 1;b 200 1;c 250 1;d 150 1;in 1;sold 1;lost 1")
		for range 100 {
			a := someAct(r)
			ahead := FormatState(s)
			x, e := Apply(s, a)
			y, f := plainly(s, a)
			want(t, FormatAct(a)+" of "+ahead, FormatState(x), e, FormatState(y), f)
			want(t, "the state ahead of it", FormatState(s), 0, ahead, 0)
			back, f := ParseAct(FormatAct(a))
			want(t, "the act back", back, f, a, api.OK)
			seen[e]++
			if e != api.OK {
				continue
			}
			n, e := CheckState(x)
			want(t, "the state behind "+FormatAct(a)+" of "+ahead, n, e, 0, api.OK)
			z, e := ParseState(FormatState(x))
			want(t, "the state back", z, e, x, api.OK)
			checkTaken(t, s, x, a)
			s = x
		}
	}
	for _, e := range []api.Errno{api.OK, api.ErrExists, api.ErrMissing, api.ErrNone, api.ErrFull, api.ErrLarge} {
		if seen[e] < 20 {
			t.Errorf("the error %d was met %d times", e, seen[e])
		}
	}
}

// checkTaken asks that an act takes of all sources in proportion, that what it takes and what it leaves is the wine ahead of it, and what a join does.
func checkTaken(t *testing.T, s, x api.ScaleState, a api.ScaleAct) {
	t.Helper()
	if a.Kind == api.ScaleJoin {
		checkJoined(t, s, x, a)
		return
	}
	w, e := TakenBy(s, a)
	if e != api.OK {
		return
	}
	c := slices.IndexFunc(s.Casks, func(c api.ScaleCask) bool { return c.Name == a.Casks[0] })
	part, f := Part(s.Casks[c].Wine, a.Volume)
	want(t, "what was taken", w, e, part, f)
	both, e := Mixed(w, x.Casks[c].Wine)
	want(t, "what was taken and what is left", both, e, s.Casks[c].Wine, api.OK)
}

func checkJoined(t *testing.T, s, x api.ScaleState, a api.ScaleAct) {
	t.Helper()
	again, e := Apply(x, a)
	want(t, "a second join", FormatState(again), e, FormatState(x), api.OK)
	shares := ""
	for i, c := range x.Casks {
		v, _ := VolumeOf(s.Casks[i].Wine)
		w, _ := VolumeOf(c.Wine)
		want(t, "the volume behind a join", w, 0, v, 0)
		if !slices.Contains(a.Casks, c.Name) || w == 0 {
			continue
		}
		here := fmt.Sprint(plainOf(c.Wine).times(big.NewRat(1, int64(w))))
		if shares != "" && shares != here {
			t.Errorf("joined casks have the shares %s and %s", shares, here)
		}
		shares = here
	}
}

// TestMixtures asks random wines for what P1.10 promises.
func TestMixtures(t *testing.T) {
	r := rand.New(rand.NewSource(4))
	some := func() api.ScaleWine {
		p := plain{}
		volume := int64(r.Intn(50))
		if volume == 0 {
			return wineOf(1)
		}
		left, den := volume, int64(1+r.Intn(20))
		left *= den
		for range r.Intn(6) {
			if left < 2 {
				break
			}
			amount := 1 + r.Int63n(left-1)
			p = p.plus(plain{r.Intn(403): big.NewRat(amount, den)})
			left -= amount
		}
		p = p.plus(plain{r.Intn(403): big.NewRat(left, den)})
		w, _ := p.wine()
		return w
	}
	for range 3000 {
		a, b := some(), some()
		x, e := Mixed(a, b)
		y, f := Mixed(b, a)
		want(t, "the other way round", x, e, y, f)
		both, ok := plainOf(a).plus(plainOf(b)).wine()
		want(t, "the mixture", x, e, both, api.OK)
		volume, _ := VolumeOf(a)
		part := r.Intn(volume + 1)
		p, e := Part(a, part)
		q, f := Part(a, volume-part)
		whole, g := Mixed(p, q)
		want(t, fmt.Sprintf("%v in two parts (%d, %d, %v)", a, e, f, ok), whole, g, a, api.OK)
		if volume == 0 {
			continue
		}
		sum := api.Range{}
		for source := range 403 {
			share, e := ShareOf(a, source)
			if e != api.OK {
				t.Fatalf("the share of %d in %v: %d", source, a, e)
			}
			sum.Lo += share.Lo
			sum.Hi += share.Hi
		}
		if sum.Lo > api.Unit || sum.Hi < api.Unit {
			t.Errorf("the shares of %v come to %v", a, sum)
		}
	}
}

// TestSteady asks random systems for what P1.12 and P1.13 promise.
func TestSteady(t *testing.T) {
	r := rand.New(rand.NewSource(5))
	right := 0
	for range 4000 {
		s := api.ScaleSystem{Name: "s", Casks: []api.ScaleVessel{{Name: "a", Capacity: 300, Start: 100}, {Name: "b", Capacity: 200, Start: 50}, {Name: "c", Capacity: 100}}, Days: []int{r.Intn(365)}}
		for range r.Intn(5) {
			s.Steps = append(s.Steps, mirrored(r)...)
		}
		text, e := Print(s)
		if e != api.OK {
			continue
		}
		right++
		back, m, e := Parse(text)
		want(t, "the system back", back, e, s, api.OK)
		want(t, "its mark", m, 0, api.TextMark{}, 0)
		start, _ := StartOf(s, 7)
		year, _ := YearOf(s, 8)
		end, n, e := Replay(start, eachOf(year, func(d api.ScaleDated) api.ScaleAct { return d.Act }))
		if e == api.ErrLarge {
			continue
		}
		want(t, "a year of "+text, n, e, 0, api.OK)
		volumes, _ := VolumesAt(s, len(s.Steps))
		for i, v := range s.Casks {
			volume, e := VolumeOf(end.Casks[i].Wine)
			want(t, "the volume of "+v.Name, volume, e, v.Start, api.OK)
			want(t, "as told", volumes[i], 0, v.Start, 0)
		}
	}
	if right < 200 {
		t.Errorf("only %d systems were right", right)
	}
}

// mirrored is a step, and one that brings the volumes back.
func mirrored(r *rand.Rand) []api.ScaleAct {
	names := []string{"a", "b", "c"}
	r.Shuffle(len(names), func(i, k int) { names[i], names[k] = names[k], names[i] })
	volume := 10 * (1 + r.Intn(10))
	step := func(kind int, casks ...string) api.ScaleAct {
		return api.ScaleAct{Kind: kind, Casks: casks, Volume: volume}
	}
	switch r.Intn(3) {
	case 0:
		return []api.ScaleAct{step(api.ScaleDraw, names[0]), step(api.ScaleFill, names[0])}
	case 1:
		return []api.ScaleAct{step(api.ScaleMove, names[0], names[1]), step(api.ScaleMove, names[1], names[0])}
	}
	return []api.ScaleAct{{Kind: api.ScaleJoin, Casks: names[:2+r.Intn(2)]}}
}
