package blend

import (
	"fmt"
	"math/rand"
	"slices"
	"testing"

	"criadera/api"
)

// TestOneOfTwo: P8.3, P8.4, P8.7 and P8.8: what Best, Failure and Nearest return is right by the chapter's definitions, and one of the first two returns something.
func TestOneOfTwo(t *testing.T) {
	r := rand.New(rand.NewSource(1))
	found, failed, short := 0, 0, 0
	for range 1500 {
		l := someCasks(r, 4)
		s := someSample(r, l)
		b, e := Best(l, s)
		w, f := Failure(l, s)
		p, d, g := Nearest(l, s)
		if g == api.OK && (!plainIsWanted(l, s, amountsOf(p)) || told(plainDistance(l, s, amountsOf(p))) != d) {
			t.Fatalf("%v, %v: nearest %v, %v", l, s, p, d)
		}
		switch {
		case e == api.OK && f == api.ErrNone && g == api.OK && d == [2]int{0, 1}:
			found++
			cost := plainCost(l, amountsOf(b.Parts))
			if !plainMeets(l, s, amountsOf(b.Parts)) || !plainProves(l, s, b.Weights) || plainBound(l, s, b.Weights).Cmp(cost) != 0 || told(cost) != b.Cost {
				t.Fatalf("%v, %v: %+v", l, s, b)
			}
			want(t, "the parts of the nearest one", 0, CheckParts(l, p), 0, api.OK)
			sum, e := CheckBlend(l, s, b.Parts)
			want(t, "the blend", sum, e, b.Cost, api.OK)
			bound, e := CheckWeights(l, s, b.Weights)
			want(t, "the weights", bound, e, b.Cost, api.OK)
		case e == api.ErrNone && f == api.OK && (g == api.OK && d[0] > 0 || g == api.ErrBreak):
			failed++
			if !plainFails(l, s, w) || CheckFailure(l, s, w) != api.OK {
				t.Fatalf("%v, %v: %+v", l, s, w)
			}
			if g == api.OK {
				got, e := DistanceOf(l, s, p)
				want(t, "the nearest one", got, e, d, api.OK)
			} else {
				short++
			}
		default:
			t.Fatalf("%v, %v: %d, %d, %d and %v", l, s, e, f, g, d)
		}
	}
	if found < 400 || failed < 400 || short < 50 {
		t.Errorf("%d samples were met, %d were not, %d of them for want of wine", found, failed, short)
	}
}

// TestLeastOfSome: P8.3 and P8.4: the least cost and the least distance are those of the best corners.
func TestLeastOfSome(t *testing.T) {
	r := rand.New(rand.NewSource(2))
	found, failed := 0, 0
	for n := range 320 {
		most := 3
		if n%40 == 0 {
			most = 4
		}
		l := someCasks(r, most)
		s := someSample(r, l)
		cost, distance := plainBest(l, s)
		b, e := Best(l, s)
		_, d, f := Nearest(l, s)
		switch {
		case cost == nil:
			failed++
			refused(t, "the cost", b, e, api.ErrNone)
		default:
			found++
			want(t, "the cost", b.Cost, e, told(cost), api.OK)
		}
		if distance == nil {
			refused(t, "the distance", d, f, api.ErrBreak)
		} else {
			want(t, "the distance", d, f, told(distance), api.OK)
		}
	}
	if found < 80 || failed < 80 {
		t.Errorf("%d samples were met, %d were not", found, failed)
	}
}

// TestBlendsOfSome: P8.2 and P8.8: random blends are looked at by the chapter's definitions, and none is better than the best one.
func TestBlendsOfSome(t *testing.T) {
	r := rand.New(rand.NewSource(3))
	met, missed := 0, 0
	for range 500 {
		l := someCasks(r, 4)
		s := someSample(r, l)
		b, e := Best(l, s)
		_, nearest, f := Nearest(l, s)
		for range 10 {
			p, ok := someBlend(r, l, s)
			want(t, "enough wine", ok, 0, f == api.OK, 0)
			if !ok {
				break
			}
			amounts := amountsOf(p)
			cost, g := CostOf(l, p)
			want(t, "the cost", cost, g, told(plainCost(l, amounts)), api.OK)
			distance := plainDistance(l, s, amounts)
			d, g := DistanceOf(l, s, p)
			want(t, "the distance", d, g, told(distance), api.OK)
			if distance.Cmp(ratio(nearest[0], nearest[1])) < 0 {
				t.Fatalf("%v, %v: %v is nearer", l, s, p)
			}
			cost, g = CheckBlend(l, s, p)
			if !plainMeets(l, s, amounts) {
				missed++
				refused(t, "one that does not meet it", cost, g, api.ErrClash)
				continue
			}
			met++
			want(t, "one that meets it", cost, g, told(plainCost(l, amounts)), api.OK)
			if e != api.OK || plainCost(l, amounts).Cmp(ratio(b.Cost[0], b.Cost[1])) < 0 {
				t.Fatalf("%v, %v: %v is cheaper", l, s, p)
			}
		}
	}
	if met < 500 || missed < 1000 {
		t.Errorf("%d blends met their samples, %d did not", met, missed)
	}
}

// TestPartsOfSome: P8.2, for any parts.
func TestPartsOfSome(t *testing.T) {
	r := rand.New(rand.NewSource(4))
	for range 3000 {
		l := someCasks(r, 4)
		p := someParts(r, l)
		amounts := amountsOf(p)
		want(t, "the parts", 0, CheckParts(l, p), 0, api.OK)
		means, e := MeanOf(l, p)
		cost, f := CostOf(l, p)
		if plainVolume(amounts).Sign() == 0 {
			refused(t, "no wine", means, e, api.ErrEmpty)
			refused(t, "no wine", cost, f, api.ErrEmpty)
			continue
		}
		for kind := range means {
			want(t, "the mean", means[kind], e, told(plainMean(l, amounts, kind)), api.OK)
		}
		want(t, "the cost", cost, f, told(plainCost(l, amounts)), api.OK)
		s := someSample(r, l)
		_, e = CheckBlend(l, s, p)
		if isWanted := plainIsWanted(l, s, amounts); isWanted == (e == api.ErrGap) {
			t.Fatalf("%v, %v: %v: %d", l, s, p, e)
		}
	}
}

// TestWeightsOfSome: P8.3, P8.4 and P8.7: random weights are looked at by the chapter's definitions, and what they prove is so.
func TestWeightsOfSome(t *testing.T) {
	r := rand.New(rand.NewSource(5))
	proved, unproved, failed := 0, 0, 0
	for range 300 {
		l := someCasks(r, 4)
		s := someSample(r, l)
		b, e := Best(l, s)
		for range 8 {
			w := someWeights(r, l, s)
			bound, f := CheckWeights(l, s, w)
			if plainProves(l, s, w) {
				proved++
				want(t, "the bound", bound, f, told(plainBound(l, s, w)), api.OK)
				if e == api.OK && plainBound(l, s, w).Cmp(ratio(b.Cost[0], b.Cost[1])) > 0 {
					t.Fatalf("%v, %v: %v is above %v", l, s, w, b.Cost)
				}
			} else {
				unproved++
				refused(t, "weights that prove none", bound, f, api.ErrProof)
			}
			f = CheckFailure(l, s, w)
			if isProved := plainFails(l, s, w); isProved != (f == api.OK) || isProved && e == api.OK {
				t.Fatalf("%v, %v: %v: %d", l, s, w, f)
			} else if isProved {
				failed++
			}
		}
	}
	if proved < 300 || unproved < 300 || failed < 200 {
		t.Errorf("%d weights proved a cost, %d did not, %d proved a failure", proved, unproved, failed)
	}
}

// widened is a sample that is right, with so much more.
func widened(t *testing.T, s api.BlendSample, by int) api.BlendSample {
	t.Helper()
	wide, e := Widened(s, by)
	want(t, "widened", 0, e, 0, api.OK)
	return wide
}

// TestNearIsNear: P8.9.
func TestNearIsNear(t *testing.T) {
	r := rand.New(rand.NewSource(6))
	far, cheaper := 0, 0
	for range 800 {
		l := someCasks(r, 4)
		s := someSample(r, l)
		_, d, e := Nearest(l, s)
		if e != api.OK {
			continue
		}
		by := up(ratio(d[0], d[1]))
		near, e := Best(l, widened(t, s, by))
		want(t, "the sample that is widened enough", 0, e, 0, api.OK)
		if by > 0 {
			far++
			b, e := Best(l, widened(t, s, by-1))
			refused(t, "the sample that is not", b, e, api.ErrNone)
		}
		wide := widened(t, s, min(1000, by+r.Intn(30)))
		b, e := Best(l, wide)
		want(t, "a wider sample", 0, e, 0, api.OK)
		switch ratio(b.Cost[0], b.Cost[1]).Cmp(ratio(near.Cost[0], near.Cost[1])) {
		case -1:
			cheaper++
		case 1:
			t.Fatalf("%v, %v: more than %v", l, wide, near.Cost)
		}
		less, more := r.Intn(by+1), r.Intn(by+1)
		_, x, _ := Nearest(l, widened(t, s, min(less, more)))
		_, y, _ := Nearest(l, widened(t, s, max(less, more)))
		if ratio(x[0], x[1]).Cmp(ratio(y[0], y[1])) < 0 {
			t.Fatalf("%v, %v: widened by %d and by %d, %v and %v", l, s, less, more, x, y)
		}
	}
	if far < 200 || cheaper < 50 {
		t.Errorf("%d samples were far, %d wider ones cheaper", far, cheaper)
	}
}

// someChoice is some of so many numbers, one at least.
func someChoice(r *rand.Rand, count int) []int {
	l := r.Perm(count)[:1+r.Intn(count)]
	slices.Sort(l)
	return l
}

// TestWholesOfSome: P8.5: blends of whole casks are looked at by the chapter's definitions, and the best one is found by trying all.
func TestWholesOfSome(t *testing.T) {
	r := rand.New(rand.NewSource(7))
	found, none, met, missed := 0, 0, 0, 0
	for n := range 400 {
		most := 6
		if n%50 == 0 {
			most = 10
		}
		l := someCasks(r, most)
		s := someSample(r, l)
		best, least := plainBestWhole(l, s)
		got, cost, e := BestWhole(l, s)
		if least == nil {
			none++
			refused(t, "the best one", got, e, api.ErrNone)
		} else {
			found++
			want(t, "the best one", got, e, best, api.OK)
			want(t, "its cost", cost, 0, up(least), 0)
		}
		for range 10 {
			casks := someChoice(r, len(l))
			amounts := wholesOf(l, casks)
			cost, e := CheckWhole(l, s, casks)
			means, f := WholeMeans(l, casks)
			for kind := range means {
				if plainVolume(amounts).Sign() == 0 {
					refused(t, "the means of nothing", means, f, api.ErrEmpty)
					break
				}
				mean := plainMean(l, amounts, kind)
				want(t, "a mean", means[kind], f, from(down(mean), up(mean)), api.OK)
			}
			switch {
			case plainVolume(amounts).Cmp(ratio(s.Volume, 1)) < 0:
				refused(t, "too little", cost, e, api.ErrGap)
			case plainWholeMeets(l, s, casks):
				met++
				want(t, "one that meets it", cost, e, up(plainCost(l, amounts)), api.OK)
			default:
				missed++
				refused(t, "one that does not meet it", cost, e, api.ErrClash)
			}
		}
	}
	if found < 100 || none < 100 || met < 100 || missed < 100 {
		t.Errorf("%d samples were met, %d were not; %d choices met theirs, %d did not", found, none, met, missed)
	}
}

// TestWholesInParts: P8.10.
func TestWholesInParts(t *testing.T) {
	r := rand.New(rand.NewSource(8))
	met := 0
	for range 3000 {
		l := someCasks(r, 4)
		casks := someChoice(r, len(l))
		amounts := wholesOf(l, casks)
		s := someSample(r, l)
		s.Volume = up(plainVolume(amounts))
		cost, e := CheckWhole(l, s, casks)
		if e != api.OK {
			continue
		}
		met++
		b, e := Best(l, s)
		want(t, "in parts", 0, e, 0, api.OK)
		if ratio(b.Cost[0], b.Cost[1]).Cmp(ratio(cost, 1)) > 0 {
			t.Fatalf("%v, %v: %v is more than %d", l, s, b.Cost, cost)
		}
	}
	if met < 200 {
		t.Errorf("only %d samples were met", met)
	}
}

// TestRecipesOfSome: P8.11.
func TestRecipesOfSome(t *testing.T) {
	r := rand.New(rand.NewSource(9))
	for range 2000 {
		x := recipe(fmt.Sprint("r-", r.Intn(100)), nil)
		for n := range r.Intn(11) {
			x.Casks = append(x.Casks, fmt.Sprint("c", r.Intn(1000), "-", n))
			x.Volumes = append(x.Volumes, some(r, 10000))
		}
		got, e := ParseRecipe(FormatRecipe(x))
		want(t, FormatRecipe(x), got, e, x, api.OK)
	}
}

// TestGreatNumbers: P8.3 and P8.4: of the greatest numbers, nothing on the way is too large.
func TestGreatNumbers(t *testing.T) {
	r := rand.New(rand.NewSource(10))
	few := func(l ...int) int { return l[r.Intn(len(l))] }
	found, failed := 0, 0
	for range 500 {
		var l []api.BlendCask
		for n := range 4 {
			c := cask(fmt.Sprint("c", n), few(10000, 9999, 9998, 3333, 2501, 1, 0), few(1000, 999, 998, 1, 0))
			for kind := range c.Values {
				c.Values[kind] = few(1000, 999, 997, 503, 1, 0)
			}
			l = append(l, c)
		}
		s := sample(few(10000, 9999, 9997, 5003, 1))
		for kind := range s.Values {
			lo := few(0, 0, 1, 250, 499, 750, 998)
			if r.Intn(2) == 0 {
				s.Values[kind] = from(lo, min(1000, lo+few(0, 1, 100, 500, 1000)))
			}
		}
		b, e := Best(l, s)
		w, f := Failure(l, s)
		switch {
		case e == api.OK && f == api.ErrNone:
			found++
			if !plainMeets(l, s, amountsOf(b.Parts)) || !plainProves(l, s, b.Weights) || plainBound(l, s, b.Weights).Cmp(ratio(b.Cost[0], b.Cost[1])) != 0 {
				t.Fatalf("%v, %v: %+v", l, s, b)
			}
			cost, e := CheckBlend(l, s, b.Parts)
			want(t, "the blend", cost, e, b.Cost, api.OK)
			bound, e := CheckWeights(l, s, b.Weights)
			want(t, "the weights", bound, e, b.Cost, api.OK)
		case e == api.ErrNone && f == api.OK:
			failed++
			want(t, "the weights", plainFails(l, s, w), CheckFailure(l, s, w), true, api.OK)
		default:
			t.Fatalf("%v, %v: %d and %d", l, s, e, f)
		}
		if p, d, e := Nearest(l, s); e == api.OK {
			got, e := DistanceOf(l, s, p)
			want(t, "the distance", got, e, d, api.OK)
			want(t, "the nearest one", plainIsWanted(l, s, amountsOf(p)), 0, true, 0)
			want(t, "the plain distance", told(plainDistance(l, s, amountsOf(p))), 0, d, 0)
		}
	}
	if found < 60 || failed < 60 {
		t.Errorf("%d samples were met, %d were not", found, failed)
	}
}
