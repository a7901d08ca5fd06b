package age

import (
	"fmt"
	"math/rand"
	"testing"

	"criadera/api"
	"criadera/scale"
)

// someSystems is random systems, each with the chapter told anew for it.
func someSystems(t *testing.T, seed int64, n int, ask func(s api.ScaleSystem, p plain, turns int)) {
	t.Helper()
	r := rand.New(rand.NewSource(seed))
	right := 0
	for range n {
		s := someSystem(r)
		if m, e := scale.CheckSystem(s); e != api.OK {
			t.Fatalf("%v: %v, %d", s, m, e)
		}
		p := plainOf(s)
		if p.isLarge() {
			_, e := MatrixOf(s)
			want(t, "a large system", 0, e, 0, api.ErrLarge)
			continue
		}
		right++
		ask(s, p, 1+r.Intn(5))
		if t.Failed() {
			text, _ := scale.Print(s)
			t.Fatalf("the system was\n%s", text)
		}
	}
	if right < n/2 {
		t.Errorf("only %d systems were right", right)
	}
}

// TestAgesPlainly compares the ages behind some turns with the chapter told anew (P2.1 to P2.5, P2.8).
func TestAgesPlainly(t *testing.T) {
	someSystems(t, 1, 400, func(s api.ScaleSystem, p plain, turns int) {
		m, e := MatrixOf(s)
		want(t, "MatrixOf", m, e, p.matrix(), api.OK)
		var shares [][]api.Range
		for cask, start := range p.start {
			var l []api.Range
			if start.Sign() > 0 {
				l = aroundAll(p.ages(cask, turns), start, api.Unit)
			}
			shares = append(shares, l)
			one := zeros(len(s.Casks))
			one[cask] = rat(1)
			for row, x := range p.turned(one, turns) {
				got, e := Entry(s, turns, [2]int{row, cask})
				want(t, "Entry", got, e, around(x, api.Unit), api.OK)
			}
		}
		l, e := ByReplay(s, turns)
		want(t, "ByReplay", l, e, shares, api.OK)
		l, e = ByPowers(s, turns)
		want(t, "ByPowers", l, e, shares, api.OK)
		for cask, start := range p.start {
			if start.Sign() > 0 {
				checkTails(t, s, p, turns, cask)
			}
		}
		sold, e := SoldAges(s, turns)
		if p.filled.Sign() == 0 {
			refused(t, "SoldAges", sold, e, api.ErrNone)
		} else {
			want(t, "SoldAges", sold, e, aroundAll(p.soldAges(turns), p.filled, api.Unit), api.OK)
		}
	})
}

// checkTails asks for the shares of at least each age of a cask, and for what is told by them.
func checkTails(t *testing.T, s api.ScaleSystem, p plain, turns, cask int) {
	t.Helper()
	for age := range turns + 1 {
		tail := p.atLeast(cask, turns, age)
		r, e := AtLeast(s, turns, api.AgeShare{Cask: cask, Age: age})
		want(t, "AtLeast", r, e, around(tail, api.Unit), api.OK)
		greatest := turns
		for p.atLeast(cask, turns, greatest).Cmp(over(rat(r.Lo), rat(api.Unit))) < 0 {
			greatest--
		}
		n, e := Greatest(s, turns, api.AgeShare{Cask: cask, Part: r.Lo})
		want(t, "Greatest", n, e, greatest, api.OK)
		if n < age {
			t.Errorf("Greatest of the share of at least %d: %d", age, n)
		}
	}
	for other, start := range p.start {
		if start.Sign() == 0 {
			continue
		}
		more, less := false, false
		for age := range turns + 1 {
			c := p.atLeast(cask, turns, age).Cmp(p.atLeast(other, turns, age))
			more, less = more || c > 0, less || c < 0
		}
		answer := api.AnswerMaybe
		if more != less {
			answer = map[bool]int{true: api.AnswerYes, false: api.AnswerNo}[more]
		}
		n, e := Older(s, turns, [2]int{cask, other})
		want(t, "Older", n, e, answer, api.OK)
	}
}

// TestDaysPlainly compares mean days, told by the days of all turns.
func TestDaysPlainly(t *testing.T) {
	someSystems(t, 2, 200, func(s api.ScaleSystem, p plain, turns int) {
		day := func(turn int) int { return 365*(turn/len(s.Days)) + s.Days[turn%len(s.Days)] }
		old := 17 * turns
		var means []api.Range
		for cask, start := range p.start {
			if start.Sign() == 0 {
				means = append(means, api.Range{})
				continue
			}
			all := rat(0)
			for age, x := range p.ages(cask, turns) {
				days := day(turns-1) + old
				if age < turns {
					days = day(turns-1) - day(turns-1-age)
				}
				all = plus(all, times(x, rat(days)))
			}
			means = append(means, around(over(all, start), 1))
		}
		l, e := MeanDays(s, turns, old)
		want(t, "MeanDays", l, e, means, api.OK)
	})
}

// TestSettledPlainly compares the settled state with the chapter told anew (P2.6, P2.7), and asks for P2.12.
func TestSettledPlainly(t *testing.T) {
	several, periods, both := 0, 0, 0
	someSystems(t, 3, 400, func(s api.ScaleSystem, p plain, turns int) {
		l, e := Reached(s)
		want(t, "Reached", l, e, p.reached(), api.OK)
		sets, e := Closed(s)
		want(t, "Closed", sets, e, p.closed(), api.OK)
		for _, set := range sets {
			several += min(1, len(set.Casks)-1)
			periods += min(1, set.Period-1)
		}
		settled := p.settled()
		if len(settled) > 1 && len(sets) > 0 {
			both++
		}
		checkSettled(t, s, p, settled)
		proof, e := ProofOf(s)
		x, f := p.proof()
		want(t, "ProofOf", proof, e, x, f)
		if e != api.OK {
			return
		}
		want(t, "CheckProof", 0, CheckProof(s, proof), 0, api.OK)
		for cask := range proof.Sums {
			proof.Sums[cask]++
			want(t, "CheckProof of a wrong one", 0, CheckProof(s, proof), 0, api.ErrProof)
			proof.Sums[cask]--
		}
	})
	if several < 20 || periods < 10 || both < 10 {
		t.Errorf("%d sets of several casks, %d with periods, %d beside settled casks", several, periods, both)
	}
}

func checkSettled(t *testing.T, s api.ScaleSystem, p plain, settled []int) {
	t.Helper()
	sums, means, sold := p.sums(), make([]api.Range, len(s.Casks)), rat(0)
	for _, cask := range settled {
		means[cask] = around(over(sums[cask], p.start[cask]), 1000)
		sold = plus(sold, times(p.soldOf(cask), plus(sums[cask], p.start[cask])))
		for age := range 4 {
			r, e := SettledShare(s, cask, age)
			want(t, "SettledShare", r, e, around(over(p.turned(p.n, age)[cask], p.start[cask]), api.Unit), api.OK)
		}
	}
	l, e := SettledMeans(s)
	want(t, "SettledMeans", l, e, means, api.OK)
	r, e := SettledSold(s)
	if p.filled.Sign() == 0 {
		refused(t, "SettledSold", r, e, api.ErrNone)
	} else {
		want(t, "SettledSold", r, e, around(over(sold, p.filled), 1000), api.OK)
	}
	within := func(part, turns int) bool {
		old := p.turned(p.start, turns)
		for _, cask := range settled {
			if times(old[cask], rat(part)).Cmp(p.start[cask]) > 0 {
				return false
			}
		}
		return true
	}
	for _, part := range []int{1, 2, 3, 10} {
		n, e := SettledWithin(s, part)
		if e == api.OK && (!within(part, n) || n > 0 && within(part, n-1)) || e == api.ErrNone && within(part, 40) {
			t.Errorf("SettledWithin %d: %d, %d", part, n, e)
		}
	}
}

// TestTwoWays: P2.8 and P2.9, up to 40 turns, where numbers are large on the way.
func TestTwoWays(t *testing.T) {
	someSystems(t, 4, 60, func(s api.ScaleSystem, p plain, turns int) {
		turns *= 8
		a, e := ByReplay(s, turns)
		b, f := ByPowers(s, turns)
		want(t, "both ways", a, e, b, f)
		if turns == 40 {
			return
		}
		next, _ := ByPowers(s, turns+1)
		before, after := api.Range{}, api.Range{}
		for cask, l := range b {
			if len(l) == 0 {
				continue
			}
			sum, start := api.Range{}, s.Casks[cask].Start
			for age, r := range l {
				sum.Lo, sum.Hi = sum.Lo+r.Lo, sum.Hi+r.Hi
				if age < turns {
					want(t, "a turn later", next[cask][age], 0, r, 0)
				}
			}
			if sum.Lo > api.Unit || sum.Hi < api.Unit {
				t.Errorf("the shares of the cask %d come to %v", cask, sum)
			}
			before.Hi += start * l[turns].Hi
			after.Lo += start * next[cask][turns+1].Lo
			last := at(api.Unit)
			for age := range turns + 1 {
				r, _ := AtLeast(s, turns, api.AgeShare{Cask: cask, Age: age})
				if r.Lo > last.Lo || r.Hi > last.Hi {
					t.Errorf("at least %d: %v behind %v", age, r, last)
				}
				last = r
			}
		}
		if after.Lo > before.Hi {
			t.Errorf("the old wine: %v behind %v", after, before)
		}
	})
}

// TestSettling: P2.10: what becomes of the old wine, and what the settled shares come to.
func TestSettling(t *testing.T) {
	someSystems(t, 5, 100, func(s api.ScaleSystem, p plain, turns int) {
		l, _ := ByPowers(s, 40)
		settled := map[int]bool{}
		for _, cask := range p.settled() {
			settled[cask] = true
			sum := 0
			for age := range 41 {
				r, e := SettledShare(s, cask, age)
				if e != api.OK {
					t.Fatalf("SettledShare: %d", e)
				}
				sum += r.Lo
			}
			if sum > api.Unit {
				t.Errorf("the settled shares of the cask %d come to %d", cask, sum)
			}
			if first, _ := ByPowers(s, 5); l[cask][40].Hi > 1 && l[cask][40].Hi >= first[cask][5].Lo {
				t.Errorf("the old wine of the cask %d: %v, and %v behind 40 turns", cask, first[cask][5], l[cask][40])
			}
		}
		for cask, shares := range l {
			if len(shares) > 0 && !settled[cask] {
				want(t, "the old wine of a closed set", shares[40], 0, at(api.Unit), 0)
			}
		}
	})
}

// TestWhatLies: P2.11.
func TestWhatLies(t *testing.T) {
	met := 0
	someSystems(t, 6, 700, func(s api.ScaleSystem, p plain, turns int) {
		if len(p.closed()) > 0 || p.filled.Sign() == 0 {
			return
		}
		met++
		r, e := SettledSold(s)
		want(t, "SettledSold", r, e, around(over(sum(p.start), p.filled), 1000), api.OK)
	})
	if met < 50 {
		t.Errorf("only %d systems were met", met)
	}
}

// TestAgainstScale: P2.2: a system that is worked by chapter 1, each turn with a source of its own, has the same shares.
func TestAgainstScale(t *testing.T) {
	compared := 0
	someSystems(t, 7, 200, func(s api.ScaleSystem, p plain, turns int) {
		state, _ := scale.StartOf(s, scaleOld)
		for turn := range turns {
			acts, _ := scale.ActsOf(s, turn)
			next, _, e := scale.Replay(state, acts)
			if e != api.OK {
				turns = turn
				break
			}
			state = next
		}
		if turns == 0 {
			return
		}
		l, e := ByPowers(s, turns)
		for cask, c := range state.Casks {
			if s.Casks[cask].Start == 0 {
				continue
			}
			for age := range turns + 1 {
				source := turns - 1 - age
				if age == turns {
					source = scaleOld
				}
				share, f := scale.ShareOf(c.Wine, source)
				want(t, fmt.Sprint("the age ", age), l[cask][age], e, share, f)
				compared++
			}
		}
	})
	if compared < 500 {
		t.Errorf("only %d shares were compared", compared)
	}
}

// scaleOld is a source for the old wine that no turn has.
const scaleOld = 400
