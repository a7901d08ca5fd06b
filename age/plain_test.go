package age

import (
	"math/big"
	"math/rand"
	"slices"

	"criadera/api"
	"criadera/lowest"
	"criadera/scale"
)

// A plain is the chapter told anew with fractions: each decilitre is followed by itself.
type plain struct {
	s        api.ScaleSystem
	m        [][]*big.Rat
	n, start []*big.Rat
	filled   *big.Rat
	goes     [][][]bool // whether wine goes in so many turns from a cask to another one
}

func rat(n int) *big.Rat { return big.NewRat(int64(n), 1) }

func zeros(n int) []*big.Rat {
	l := make([]*big.Rat, n)
	for i := range l {
		l[i] = new(big.Rat)
	}
	return l
}

// trace follows what is in the casks at first, or what is filled in if this is asked, through all steps.
func trace(s api.ScaleSystem, in []*big.Rat, new bool) []*big.Rat {
	number := func(name string) int {
		return slices.IndexFunc(s.Casks, func(v api.ScaleVessel) bool { return v.Name == name })
	}
	for step, a := range s.Steps {
		volumes, _ := scale.VolumesAt(s, step)
		first := number(a.Casks[0])
		switch a.Kind {
		case api.ScaleFill:
			if new {
				in[first] = plus(in[first], rat(a.Volume))
			}
		case api.ScaleDraw, api.ScaleMove:
			taken := times(in[first], big.NewRat(int64(a.Volume), int64(volumes[first])))
			in[first] = minus(in[first], taken)
			if a.Kind == api.ScaleMove {
				in[number(a.Casks[1])] = plus(in[number(a.Casks[1])], taken)
			}
		case api.ScaleJoin:
			all, volume := rat(0), 0
			for _, name := range a.Casks {
				all = plus(all, in[number(name)])
				volume += volumes[number(name)]
			}
			for _, name := range a.Casks {
				if volume > 0 {
					in[number(name)] = times(all, big.NewRat(int64(volumes[number(name)]), int64(volume)))
				}
			}
		}
	}
	return in
}

func plus(a, b *big.Rat) *big.Rat  { return new(big.Rat).Add(a, b) }
func minus(a, b *big.Rat) *big.Rat { return new(big.Rat).Sub(a, b) }
func times(a, b *big.Rat) *big.Rat { return new(big.Rat).Mul(a, b) }
func over(a, b *big.Rat) *big.Rat  { return new(big.Rat).Quo(a, b) }

func plainOf(s api.ScaleSystem) plain {
	k := len(s.Casks)
	p := plain{s: s, n: trace(s, zeros(k), true), filled: rat(0)}
	for range k {
		p.m = append(p.m, zeros(k))
	}
	for column, v := range s.Casks {
		p.start = append(p.start, rat(v.Start))
		if v.Start == 0 {
			continue
		}
		decilitre := zeros(k)
		decilitre[column] = rat(1)
		for i, x := range trace(s, decilitre, false) {
			p.m[i][column] = x
		}
	}
	for _, a := range s.Steps {
		if a.Kind == api.ScaleFill {
			p.filled = plus(p.filled, rat(a.Volume))
		}
	}
	for turns := range 3*k + 1 {
		p.goes = append(p.goes, nil)
		for from := range k {
			decilitre := zeros(k)
			decilitre[from] = rat(1)
			var to []bool
			for _, x := range p.turned(decilitre, turns) {
				to = append(to, x.Sign() > 0)
			}
			p.goes[turns] = append(p.goes[turns], to)
		}
	}
	return p
}

// den is the least common denominator of all numbers.
func (p plain) den() *big.Int {
	den := big.NewInt(1)
	for _, l := range append(slices.Clone(p.m), p.n) {
		for _, x := range l {
			d := new(big.Int).GCD(nil, nil, den, x.Denom())
			den = new(big.Int).Mul(den, new(big.Int).Quo(x.Denom(), d))
		}
	}
	return den
}

func (p plain) isLarge() bool { return p.den().Cmp(big.NewInt(api.MaxAgeDen)) > 0 }

func (p plain) matrix() api.AgeMatrix {
	den := new(big.Rat).SetInt(p.den())
	ints := func(l []*big.Rat) []int {
		var out []int
		for _, x := range l {
			out = append(out, int(times(x, den).Num().Int64()))
		}
		return out
	}
	out := api.AgeMatrix{Den: int(den.Num().Int64()), New: ints(p.n)}
	for _, l := range p.m {
		out.Rows = append(out.Rows, ints(l))
	}
	return out
}

// turned is amounts behind so many turns more.
func (p plain) turned(l []*big.Rat, turns int) []*big.Rat {
	for range turns {
		out := zeros(len(l))
		for i := range l {
			for k := range l {
				out[i] = plus(out[i], times(p.m[i][k], l[k]))
			}
		}
		l = out
	}
	return l
}

// ages is what a cask has of each age behind so many turns, and of the old wine.
func (p plain) ages(cask, turns int) []*big.Rat {
	var l []*big.Rat
	for age := range turns {
		l = append(l, p.turned(p.n, age)[cask])
	}
	return append(l, p.turned(p.start, turns)[cask])
}

// atLeast is the share of at least an age.
func (p plain) atLeast(cask, turns, age int) *big.Rat {
	return over(sum(p.ages(cask, turns)[age:]), p.start[cask])
}

func sum(l []*big.Rat) *big.Rat {
	s := rat(0)
	for _, x := range l {
		s = plus(s, x)
	}
	return s
}

// soldOf is what is sold of a decilitre.
func (p plain) soldOf(cask int) *big.Rat {
	if p.start[cask].Sign() == 0 {
		return rat(0)
	}
	s := rat(1)
	for _, l := range p.m {
		s = minus(s, l[cask])
	}
	return s
}

// soldAges is what is sold in the last turn.
func (p plain) soldAges(turns int) []*big.Rat {
	sold := func(l []*big.Rat) *big.Rat {
		s := rat(0)
		for cask, x := range l {
			s = plus(s, times(p.soldOf(cask), x))
		}
		return s
	}
	l := []*big.Rat{minus(p.filled, sum(p.n))}
	for age := 1; age < turns; age++ {
		l = append(l, sold(p.turned(p.n, age-1)))
	}
	return append(l, sold(p.turned(p.start, turns-1)))
}

// reached looks at amounts, not at ways.
func (p plain) reached() []int {
	var l []int
	for cask := range p.s.Casks {
		l = append(l, -1)
		for age := len(p.s.Casks); age >= 0; age-- {
			if p.turned(p.n, age)[cask].Sign() > 0 {
				l[cask] = age
			}
		}
	}
	return l
}

// closed looks at all sets of casks, as the chapter tells what a closed one is.
func (p plain) closed() []api.AgeClosed {
	k := len(p.s.Casks)
	var sets []api.AgeClosed
	for bits := 1; bits < 1<<k; bits++ {
		var set []int
		for cask := range k {
			if bits>>cask&1 == 1 {
				set = append(set, cask)
			}
		}
		if p.isClosed(set) {
			sets = append(sets, api.AgeClosed{Casks: set, Period: p.period(set[0])})
		}
	}
	slices.SortFunc(sets, func(a, b api.AgeClosed) int { return a.Casks[0] - b.Casks[0] })
	return sets
}

func (p plain) isClosed(set []int) bool {
	k := len(p.s.Casks)
	for _, from := range set {
		if p.start[from].Sign() == 0 || p.soldOf(from).Sign() > 0 {
			return false
		}
		for to := range k {
			ever := false
			for turns := 1; turns <= k; turns++ {
				ever = ever || p.goes[turns][from][to]
			}
			if ever != slices.Contains(set, to) {
				return false
			}
		}
	}
	return true
}

func (p plain) period(cask int) int {
	period := 0
	for turns := range p.goes {
		if p.goes[turns][cask][cask] {
			period = lowest.Divisor(period, turns)
		}
	}
	return period
}

func (p plain) settled() []int {
	var l []int
	for cask := range p.s.Casks {
		in := slices.ContainsFunc(p.closed(), func(c api.AgeClosed) bool { return slices.Contains(c.Casks, cask) })
		if !in && p.start[cask].Sign() > 0 {
			l = append(l, cask)
		}
	}
	return l
}

// sums solves A = M (A + Start) by taking rows from each other, with a row exchanged where it must be.
func (p plain) sums() []*big.Rat {
	settled := p.settled()
	var l [][]*big.Rat
	for _, i := range settled {
		line := zeros(len(settled) + 1)
		for c, k := range settled {
			line[c] = minus(line[c], p.m[i][k])
			if i == k {
				line[c] = plus(line[c], rat(1))
			}
			line[len(settled)] = plus(line[len(settled)], times(p.m[i][k], p.start[k]))
		}
		l = append(l, line)
	}
	for c := range l {
		at := c + slices.IndexFunc(l[c:], func(line []*big.Rat) bool { return line[c].Sign() != 0 })
		l[c], l[at] = l[at], l[c]
		for i := range l {
			if i == c {
				continue
			}
			by := over(l[i][c], l[c][c])
			for k := range l[i] {
				l[i][k] = minus(l[i][k], times(by, l[c][k]))
			}
		}
	}
	sums := zeros(len(p.s.Casks))
	for c, cask := range settled {
		sums[cask] = over(l[c][len(settled)], l[c][c])
	}
	return sums
}

// proof is the sums over their least common denominator.
func (p plain) proof() (api.AgeProof, api.Errno) {
	q := plain{m: [][]*big.Rat{p.sums()}}
	den := q.den()
	out := api.AgeProof{}
	for _, x := range append([]*big.Rat{rat(1)}, p.sums()...) {
		n := times(x, new(big.Rat).SetInt(den)).Num()
		if n.Cmp(big.NewInt(api.MaxNumber)) > 0 {
			return api.AgeProof{}, api.ErrLarge
		}
		out.Sums = append(out.Sums, int(n.Int64()))
	}
	return api.AgeProof{Den: out.Sums[0], Sums: out.Sums[1:]}, api.OK
}

// around is a fraction, times something, rounded down and up.
func around(x *big.Rat, by int) api.Range {
	x = times(x, rat(by))
	down, rest := new(big.Int).QuoRem(x.Num(), x.Denom(), new(big.Int))
	r := at(int(down.Int64()))
	if rest.Sign() > 0 {
		r.Hi++
	}
	return r
}

func aroundAll(l []*big.Rat, whole *big.Rat, by int) []api.Range {
	var out []api.Range
	for _, x := range l {
		out = append(out, around(over(x, whole), by))
	}
	return out
}

// someSystem is a right system of few casks: some steps, and behind them such that bring the volumes of the start back. Some of them take wine round without selling any.
func someSystem(r *rand.Rand) api.ScaleSystem {
	if r.Intn(8) == 0 {
		return someRound(r)
	}
	s := api.ScaleSystem{Name: "s", Days: []int{r.Intn(100), 100 + r.Intn(100), 200 + r.Intn(165)}[:1+r.Intn(3)]}
	volumes, kinds := []int{}, 2+2*r.Intn(2)
	for i := range 2 + r.Intn(4) {
		capacity := []int{20, 30, 40, 60}[r.Intn(4)]
		start := min(capacity, 10*r.Intn(5))
		s.Casks = append(s.Casks, api.ScaleVessel{Name: string(rune('a' + i)), Capacity: capacity, Start: start})
		volumes = append(volumes, start)
	}
	for range r.Intn(9) {
		from, to, volume := r.Intn(len(volumes)), r.Intn(len(volumes)), 5*(1+r.Intn(8))
		switch kind := r.Intn(kinds); {
		case from == to:
		case kind == 0:
			s.Steps = append(s.Steps, step(s, api.ScaleJoin, 0, from, to))
		case kind == 1 && volumes[from] > 0:
			volume = min(volume, volumes[from])
			moved(&s, volumes, volume, from, to)
		case kind == 2 && volumes[from] > 0:
			volume = min(volume, volumes[from])
			s.Steps = append(s.Steps, step(s, api.ScaleDraw, volume, from))
			volumes[from] -= volume
		case kind == 3:
			filled(&s, volumes, volume, to)
		}
	}
	for from := range volumes {
		for to := range volumes {
			if spare := volumes[from] - s.Casks[from].Start; spare > 0 {
				moved(&s, volumes, min(spare, max(0, s.Casks[to].Start-volumes[to])), from, to)
			}
		}
	}
	for i, v := range s.Casks {
		if spare := volumes[i] - v.Start; spare > 0 {
			s.Steps = append(s.Steps, step(s, api.ScaleDraw, spare, i))
		}
		filled(&s, volumes, v.Start-volumes[i], i)
	}
	return s
}

// someRound is casks of which one is empty: others are moved into the empty one, in some order.
func someRound(r *rand.Rand) api.ScaleSystem {
	s := api.ScaleSystem{Name: "s", Days: []int{7}}
	count := 3 + r.Intn(3)
	empty := r.Intn(count)
	volumes := make([]int, count)
	for i := range volumes {
		if i != empty {
			volumes[i] = 20
		}
		s.Casks = append(s.Casks, api.ScaleVessel{Name: string(rune('a' + i)), Capacity: 20, Start: volumes[i]})
	}
	free := empty
	for range count {
		if from := r.Intn(count); from != free {
			moved(&s, volumes, 20, from, free)
			free = from
		}
	}
	if free != empty {
		moved(&s, volumes, 20, empty, free)
	}
	return s
}

func step(s api.ScaleSystem, kind, volume int, casks ...int) api.ScaleAct {
	a := api.ScaleAct{Kind: kind, Volume: volume}
	for _, cask := range casks {
		a.Casks = append(a.Casks, s.Casks[cask].Name)
	}
	return a
}

// moved and filled do as much as there is room for.
func moved(s *api.ScaleSystem, volumes []int, volume, from, to int) {
	if volume = min(volume, s.Casks[to].Capacity-volumes[to]); volume > 0 {
		s.Steps = append(s.Steps, step(*s, api.ScaleMove, volume, from, to))
		volumes[from] -= volume
		volumes[to] += volume
	}
}

func filled(s *api.ScaleSystem, volumes []int, volume, to int) {
	if volume = min(volume, s.Casks[to].Capacity-volumes[to]); volume > 0 {
		s.Steps = append(s.Steps, step(*s, api.ScaleFill, volume, to))
		volumes[to] += volume
	}
}
