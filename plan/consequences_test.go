package plan

import (
	"math/big"
	"math/rand"
	"slices"
	"testing"

	chapter2 "criadera/age"
	"criadera/api"
	chapter1 "criadera/scale"
)

// TestBestOfSome: P6.3, and P6.8: what Best and Refute return is right by the chapter's definitions, and one of them returns something.
func TestBestOfSome(t *testing.T) {
	r := rand.New(rand.NewSource(1))
	found, refuted, large := 0, 0, 0
	for range 3000 {
		p := someProgram(r, 4, 8)
		b, e := Best(p)
		w, f := Refute(p)
		switch {
		case e == api.OK && f == api.ErrNone:
			found++
			_, bound := plainPut(p, b.Weights)
			gain := sumOf(drawsOf(b.Point), p.Gain)
			if !plainAllows(p, drawsOf(b.Point)) || !plainProves(p, b.Weights, p.Gain) || gain.Cmp(bound) != 0 || fracOf(gain) != b.Gain {
				t.Fatalf("%+v: %+v", p, b)
			}
			got, e := CheckPoint(p, b.Point)
			want(t, "the point", got, e, b.Gain, api.OK)
			got, e = CheckWeights(p, b.Weights)
			want(t, "the weights", got, e, b.Gain, api.OK)
		case e == api.ErrLarge && f == api.ErrNone:
			large++
			if greatest, ok := (programme{p}).greatest(); !ok || isSmall(ratio(greatest.Value, greatest.Den)) {
				t.Fatalf("%+v is refused", p)
			}
		case e == api.ErrNone && f == api.OK:
			refuted++
			if !plainRefutes(p, w) || CheckRefuted(p, w) != api.OK {
				t.Fatalf("%+v: %+v", p, w)
			}
		default:
			t.Fatalf("%+v: %d and %d", p, e, f)
		}
	}
	if found < 1000 || refuted < 300 || large < 20 {
		t.Errorf("%d programmes were found, %d refuted, %d too large", found, refuted, large)
	}
}

// TestGreatestOfSome: P6.3 and P6.9: the greatest gain is that of the best corner, demands that hold back are binding at all best corners, and without others the greatest gain stays.
func TestGreatestOfSome(t *testing.T) {
	r := rand.New(rand.NewSource(2))
	holding, failing := 0, 0
	for range 1000 {
		p := someProgram(r, 3, 4)
		best, greatest := plainBest(p)
		if greatest != nil && isSmall(greatest) {
			b, e := Best(p)
			want(t, "the gain", b.Gain, e, fracOf(greatest), api.OK)
		}
		var hold, fail []int
		for n := range p.Demands {
			less, e := Without(p, n)
			want(t, "without", len(less.Demands), e, len(p.Demands)-1, api.OK)
			_, freed := plainBest(less)
			switch {
			case greatest == nil && freed != nil:
				fail = append(fail, n)
			case greatest != nil && freed.Cmp(greatest) > 0:
				hold = append(hold, n)
			}
		}
		h, e := Holding(p)
		f, g := Failing(p)
		if greatest == nil {
			failing += len(fail)
			refused(t, "holding", h, e, api.ErrNone)
			want(t, "failing", f, g, fail, api.OK)
			continue
		}
		holding += len(hold)
		want(t, "holding", h, e, hold, api.OK)
		refused(t, "failing", f, g, api.ErrNone)
		for _, draws := range best {
			for _, n := range h {
				if sumOf(draws, p.Demands[n].Coefs).Cmp(ratio(p.Demands[n].Amount, 1)) != 0 {
					t.Fatalf("%+v: %d is not binding at %v", p, n, draws)
				}
			}
		}
	}
	if holding < 300 || failing < 100 {
		t.Errorf("only %d demands hold back, and %d fail", holding, failing)
	}
}

// TestNoneGreater: P6.8 and P6.2, by random points and weights.
func TestNoneGreater(t *testing.T) {
	r := rand.New(rand.NewSource(3))
	allowed, proved, refuted := 0, 0, 0
	for range 3000 {
		p := someProgram(r, 4, 3)
		var gains []*big.Rat
		for range 10 {
			x := somePoint(r, p)
			gain, e := CheckPoint(p, x)
			if ok := plainAllows(p, drawsOf(x)); ok != (e != api.ErrClash) {
				t.Fatalf("%+v at %+v: %d", p, x, e)
			} else if !ok {
				continue
			}
			allowed++
			exact := sumOf(drawsOf(x), p.Gain)
			gains = append(gains, exact)
			if isSmall(exact) {
				want(t, "the gain", gain, e, fracOf(exact), api.OK)
			}
		}
		for range 10 {
			w := someWeights(r, p)
			_, bound := plainPut(p, w)
			_, e := CheckWeights(p, w)
			if ok := plainProves(p, w, p.Gain); ok != (e != api.ErrProof) || ok && slices.ContainsFunc(gains, func(gain *big.Rat) bool { return gain.Cmp(bound) > 0 }) {
				t.Fatalf("%+v by %+v: %d", p, w, e)
			} else if ok {
				proved++
			}
			e = CheckRefuted(p, w)
			if ok := plainRefutes(p, w); ok != (e == api.OK) || ok && len(gains) > 0 {
				t.Fatalf("%+v refuted by %+v: %d", p, w, e)
			} else if ok {
				refuted++
			}
		}
	}
	if allowed < 1000 || proved < 1000 || refuted < 100 {
		t.Errorf("%d points were allowed, %d weights proved something, %d refuted", allowed, proved, refuted)
	}
}

// TestSteadyOfSome: P6.4: the steady ages by their definition, which hold whatever evaporates.
func TestSteadyOfSome(t *testing.T) {
	r := rand.New(rand.NewSource(4))
	right := 0
	for range 5000 {
		s := someSystem(r, []int{10, 500, 20000}[r.Intn(3)])
		draw := r.Intn(1 + s.Scales[0].Volume)
		flows, e := Flows(s, draw)
		least, greatest := plainFlows(someLosses(s, leastLoss), draw), plainFlows(someLosses(s, greatestLoss), draw)
		isFull := false
		for n, x := range s.Scales {
			want(t, "a flow", flows[n], e, from(least[n], greatest[n]), api.OK)
			isFull = isFull || greatest[n] > x.Volume
		}
		l, e := Steady(s, draw)
		if least[0] == 0 {
			refused(t, "nothing flows", l, e, api.ErrZero)
			continue
		}
		if isFull {
			refused(t, "too much", l, e, api.ErrFull)
			continue
		}
		right++
		some := someLosses(s, anyLoss(r))
		for n := range s.Scales {
			lo, hi := plainSteady(s, someLosses(s, greatestLoss), draw, n), plainSteady(s, someLosses(s, leastLoss), draw, n)
			want(t, "a steady age", l[n], e, from(down(lo), up(hi)), api.OK)
			if x := plainSteady(s, some, draw, n); x.Cmp(lo) < 0 || x.Cmp(hi) > 0 {
				t.Fatalf("%+v with %v: %v", s, some, x)
			}
		}
	}
	if right < 1500 {
		t.Errorf("only %d systems had steady ages", right)
	}
}

// TestForEverOfSome: P6.5 and P6.10.
func TestForEverOfSome(t *testing.T) {
	r := rand.New(rand.NewSource(5))
	found := 0
	for range 1500 {
		s := someSystem(r, 100)
		draw := 0
		for plainBroken(s, draw) < 0 {
			draw++
		}
		got, n, e := ForEver(s)
		if draw == 0 {
			refused(t, "for ever", [2]int{got, n}, e, api.ErrNone)
			continue
		}
		found++
		want(t, "for ever", [2]int{got, n}, e, [2]int{draw - 1, plainBroken(s, draw)}, api.OK)
		if l, e := Steady(s, got); e == api.OK {
			for n, x := range s.Scales {
				if l[n].Lo < x.Least {
					t.Fatalf("%+v: %v", s, l)
				}
			}
		}
		changed := systemWith(s.New, slices.Clone(s.Scales)...)
		x := &changed.Scales[r.Intn(len(s.Scales))]
		x.Least += r.Intn(100001-x.Least) * r.Intn(2)
		x.Loss.Hi += r.Intn(x.Volume - x.Loss.Hi + 1)
		if more, _, e := ForEver(changed); e == api.OK && more > got {
			t.Fatalf("%+v: %d, %+v: %d", s, got, changed, more)
		}
	}
	if found < 500 {
		t.Errorf("only %d systems had a draw", found)
	}
}

// TestSteadyStays: P6.11: a year leads from whole steady ages to themselves.
func TestSteadyStays(t *testing.T) {
	r := rand.New(rand.NewSource(6))
	found := 0
	for range 5000 {
		s, draw := systemWith(r.Intn(1000)), r.Intn(9)
		flow := draw
		for range 1 + r.Intn(4) {
			loss := r.Intn(3)
			flow += loss
			s.Scales = append(s.Scales, scale(max(1, flow)*(1+r.Intn(12)), just(loss), 0))
		}
		l, e := Steady(s, draw)
		if e != api.OK || l[0].Hi > api.MaxPlanAge {
			continue
		}
		found++
		again, e := AgesAfter(s, l, numbers(draw, draw))
		want(t, "the steady ages", again, e, l, api.OK)
	}
	if found < 3000 {
		t.Errorf("only %d systems had steady ages", found)
	}
}

// TestYearsOfSome: P6.6 and P6.11: the ages by their definition, within which true ages lie whatever evaporates, and wider ages at first.
func TestYearsOfSome(t *testing.T) {
	r := rand.New(rand.NewSource(7))
	right, short := 0, 0
	for range 3000 {
		s := someSystem(r, []int{10, 500, 20000}[r.Intn(3)])
		begin := someAges(r, s)
		var draws []int
		for range r.Intn(6) {
			draws = append(draws, r.Intn(1+s.Scales[0].Volume/2))
		}
		l, e := AgesAfter(s, begin, draws)
		x, f := FirstShort(s, begin, draws)
		ages, first, isShort, ok := slices.Clone(begin), api.PlanShort{}, false, true
		truth := endsOf(begin, anyLoss(r))
		for year, draw := range draws {
			if ages, ok = plainBehind(s, ages, draw); !ok {
				break
			}
			truth, _ = plainYear(s, truth, someLosses(s, anyLoss(r)), draw)
			for n := range ages {
				if truth[n].Cmp(ratio(ages[n].Lo, 1)) < 0 || truth[n].Cmp(ratio(ages[n].Hi, 1)) > 0 {
					t.Fatalf("%+v: %v is not in %v", s, truth[n], ages[n])
				}
				if !isShort && ages[n].Lo < s.Scales[n].Least {
					first, isShort = api.PlanShort{Year: year, Scale: n}, true
				}
			}
		}
		if !ok {
			refused(t, "too much", l, e, api.ErrFull)
			refused(t, "too much", x, f, api.ErrFull)
			continue
		}
		right++
		want(t, "ages", l, e, ages, api.OK)
		if isShort {
			short++
			want(t, "short", x, f, first, api.OK)
		} else {
			refused(t, "not short", x, f, api.ErrNone)
		}
		wider := slices.Clone(begin)
		for n := range wider {
			wider[n] = from(r.Intn(1+wider[n].Lo), wider[n].Hi+r.Intn(100001-wider[n].Hi))
		}
		later, _ := AgesAfter(s, wider, draws)
		for n := range later {
			if later[n].Lo > l[n].Lo || later[n].Hi < l[n].Hi {
				t.Fatalf("%+v: %v from %v, %v from %v", s, later, wider, l, begin)
			}
		}
	}
	if right < 1000 || short < 300 {
		t.Errorf("%d draws could be taken, %d made a scale short", right, short)
	}
}

// TestNowOfSome: P6.6 and P6.12.
func TestNowOfSome(t *testing.T) {
	r := rand.New(rand.NewSource(8))
	found, above := 0, 0
	for range 1500 {
		s := someSystem(r, 100)
		begin := someAges(r, s)
		draw := 0
		for !plainIsShort(s, begin, draw) {
			draw++
		}
		got, e := GreatestNow(s, begin)
		if draw == 0 {
			refused(t, "now", got, e, api.ErrNone)
			continue
		}
		found += min(1, draw-1)
		want(t, "now", got, e, draw-1, api.OK)
		_, e = FirstShort(s, begin, numbers(got))
		want(t, "with it", 0, e, 0, api.ErrNone)
		if _, e = FirstShort(s, begin, numbers(got+1)); e == api.OK {
			above++
		} else {
			want(t, "with one decilitre more", 0, e, 0, api.ErrFull)
		}
	}
	if found < 200 || above < 100 {
		t.Errorf("%d systems had a draw above 0, in %d one more made a scale short", found, above)
	}
}

// TestTextsAgain: P6.12, and P6.7: what is read is written in the same way again.
func TestTextsAgain(t *testing.T) {
	r := rand.New(rand.NewSource(9))
	pieces := []string{"", " ", ";", "0", "1", "7", "-", "+", "x", "\n", ";1 0 0 0", "00", "\xff"}
	read := 0
	for range 5000 {
		s := someSystem(r, 20000)
		text := FormatSystem(s)
		got, e := ParseSystem(text)
		want(t, text, got, e, s, api.OK)
		at := r.Intn(len(text) + 1)
		text = text[:at] + pieces[r.Intn(len(pieces))] + text[min(len(text), at+r.Intn(3)):]
		got, e = ParseSystem(text)
		if e != api.OK {
			refused(t, text, got, 0, 0)
			continue
		}
		read++
		if again := FormatSystem(got); again != text {
			t.Errorf("%q: %q", text, again)
		}
	}
	if read < 500 {
		t.Errorf("only %d texts were right", read)
	}
}

// TestSteadyOfSystems: P2: the steady ages are those of chapter 2, which tells them ahead of the year that this chapter counts.
func TestSteadyOfSystems(t *testing.T) {
	r := rand.New(rand.NewSource(10))
	for range 300 {
		volume := 1 + r.Intn(300)
		c := api.ScaleClassic{Name: "s", Scales: 1 + r.Intn(4), Casks: 1, Capacity: volume, Draw: 1 + r.Intn(volume), Days: numbers(0)}
		x, e := chapter1.Classic(c)
		means, f := chapter2.SettledMeans(x)
		l, g := Steady(systemWith(0, slices.Repeat([]api.PlanScale{scale(volume, just(0), 0)}, c.Scales)...), c.Draw)
		for n := range means {
			means[n] = from(means[n].Lo+1000, means[n].Hi+1000)
		}
		if e != api.OK || f != api.OK {
			t.Fatalf("%+v: %d, %d", c, e, f)
		}
		want(t, "the steady ages", l, g, means, api.OK)
	}
}
