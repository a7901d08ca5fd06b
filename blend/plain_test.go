package blend

import (
	"fmt"
	"math/big"
	"math/bits"
	"math/rand"
	"slices"

	"criadera/api"
)

// The chapter told anew, as plainly as its definitions are: in fractions, by trying all corners and all sets of casks.

func ratio(num, den int) *big.Rat { return big.NewRat(int64(num), int64(den)) }

func product(a *big.Rat, times int) *big.Rat { return new(big.Rat).Mul(a, ratio(times, 1)) }

// amountsOf is how much a blend takes from each cask.
func amountsOf(p api.BlendParts) []*big.Rat {
	var l []*big.Rat
	for _, n := range p.Parts {
		l = append(l, ratio(n, p.Den))
	}
	return l
}

// sumOf is the sum of all amounts, each one so many times.
func sumOf(amounts []*big.Rat, times func(cask int) int) *big.Rat {
	sum := new(big.Rat)
	for cask, amount := range amounts {
		sum.Add(sum, product(amount, times(cask)))
	}
	return sum
}

func plainVolume(amounts []*big.Rat) *big.Rat { return sumOf(amounts, func(int) int { return 1 }) }

func plainCost(l []api.BlendCask, amounts []*big.Rat) *big.Rat {
	return sumOf(amounts, func(cask int) int { return l[cask].Cost })
}

// plainMean is the mean of amounts that are not all 0.
func plainMean(l []api.BlendCask, amounts []*big.Rat, kind int) *big.Rat {
	return new(big.Rat).Quo(sumOf(amounts, func(cask int) int { return l[cask].Values[kind] }), plainVolume(amounts))
}

func plainDistance(l []api.BlendCask, s api.BlendSample, amounts []*big.Rat) *big.Rat {
	d := new(big.Rat)
	for kind, r := range s.Values {
		mean := plainMean(l, amounts, kind)
		for _, far := range []*big.Rat{new(big.Rat).Sub(mean, ratio(r.Hi, 1)), new(big.Rat).Sub(ratio(r.Lo, 1), mean)} {
			if far.Cmp(d) > 0 {
				d = far
			}
		}
	}
	return d
}

// isThere tells whether casks have such amounts.
func isThere(l []api.BlendCask, amounts []*big.Rat) bool {
	for cask, amount := range amounts {
		if amount.Sign() < 0 || amount.Cmp(ratio(l[cask].Volume, 1)) > 0 {
			return false
		}
	}
	return true
}

// plainIsWanted tells whether amounts are there, and as much as is wanted.
func plainIsWanted(l []api.BlendCask, s api.BlendSample, amounts []*big.Rat) bool {
	return isThere(l, amounts) && plainVolume(amounts).Cmp(ratio(s.Volume, 1)) == 0
}

func plainMeets(l []api.BlendCask, s api.BlendSample, amounts []*big.Rat) bool {
	return plainIsWanted(l, s, amounts) && plainDistance(l, s, amounts).Sign() == 0
}

// plainGives is what weights give to a cask, and plainBound their bound.
func plainGives(l []api.BlendCask, s api.BlendSample, w api.BlendWeights, cask int) *big.Rat {
	sum := ratio(w.Each, 1)
	sum.Sub(sum, ratio(w.Casks[cask], 1))
	for kind, r := range s.Values {
		value := l[cask].Values[kind]
		sum.Sub(sum, product(ratio(w.High[kind], 1), value-r.Hi))
		sum.Sub(sum, product(ratio(w.Low[kind], 1), r.Lo-value))
	}
	return sum.Quo(sum, ratio(w.Den, 1))
}

func plainBound(l []api.BlendCask, s api.BlendSample, w api.BlendWeights) *big.Rat {
	sum := product(ratio(w.Each, 1), s.Volume)
	for cask, weight := range w.Casks {
		sum.Sub(sum, product(ratio(weight, 1), l[cask].Volume))
	}
	return sum.Quo(sum, ratio(w.Den, 1))
}

// plainIsWithin tells whether weights give to each cask so much at most.
func plainIsWithin(l []api.BlendCask, s api.BlendSample, w api.BlendWeights, most func(c api.BlendCask) int) bool {
	for cask, c := range l {
		if plainGives(l, s, w, cask).Cmp(ratio(most(c), 1)) > 0 {
			return false
		}
	}
	return true
}

func plainProves(l []api.BlendCask, s api.BlendSample, w api.BlendWeights) bool {
	return plainIsWithin(l, s, w, func(c api.BlendCask) int { return c.Cost })
}

func plainFails(l []api.BlendCask, s api.BlendSample, w api.BlendWeights) bool {
	return plainIsWithin(l, s, w, func(api.BlendCask) int { return 0 }) && plainBound(l, s, w).Sign() > 0
}

// plainBest is the least cost and the least distance of all blends that are as much as is wanted, by trying all corners; nothing if there is none. A corner is the only amounts and distance at which as many conditions hold just so.
func plainBest(l []api.BlendCask, s api.BlendSample) (cost, distance *big.Rat) {
	many := len(l)
	equation := func(of func(cask int) int, further, sum int) []*big.Rat {
		var row []*big.Rat
		for cask := range l {
			row = append(row, ratio(of(cask), 1))
		}
		return append(row, ratio(further, 1), ratio(sum, 1))
	}
	isOne := func(n int) func(cask int) int {
		return func(cask int) int {
			if cask == n {
				return 1
			}
			return 0
		}
	}
	equations := [][]*big.Rat{equation(func(int) int { return 0 }, 1, 0)}
	for n, c := range l {
		equations = append(equations, equation(isOne(n), 0, 0), equation(isOne(n), 0, c.Volume))
	}
	for kind, r := range s.Values {
		value := func(cask int) int { return l[cask].Values[kind] }
		equations = append(equations, equation(func(cask int) int { return value(cask) - r.Hi }, -s.Volume, 0))
		equations = append(equations, equation(func(cask int) int { return value(cask) - r.Lo }, s.Volume, 0))
	}
	for mask := range 1 << len(equations) {
		if bits.OnesCount(uint(mask)) != many {
			continue
		}
		rows := [][]*big.Rat{equation(func(int) int { return 1 }, 0, s.Volume)}
		for n, row := range equations {
			if mask>>n&1 == 1 {
				rows = append(rows, slices.Clone(row))
			}
		}
		x := onlySolution(rows)
		if x == nil || !plainIsWanted(l, s, x[:many]) {
			continue
		}
		if d := plainDistance(l, s, x[:many]); distance == nil || d.Cmp(distance) < 0 {
			distance = d
		}
		if c := plainCost(l, x[:many]); plainMeets(l, s, x[:many]) && (cost == nil || c.Cmp(cost) < 0) {
			cost = c
		}
	}
	return cost, distance
}

// onlySolution takes equations from each other, and is nothing if they have no solution, or several.
func onlySolution(rows [][]*big.Rat) []*big.Rat {
	for p := range rows {
		found := slices.IndexFunc(rows[p:], func(row []*big.Rat) bool { return row[p].Sign() != 0 })
		if found < 0 {
			return nil
		}
		rows[p], rows[p+found] = rows[p+found], rows[p]
		for i := range rows {
			if i == p || rows[i][p].Sign() == 0 {
				continue
			}
			by := new(big.Rat).Quo(rows[i][p], rows[p][p])
			for k := range rows[i] {
				rows[i][k] = new(big.Rat).Sub(rows[i][k], new(big.Rat).Mul(by, rows[p][k]))
			}
		}
	}
	var solution []*big.Rat
	for p, row := range rows {
		solution = append(solution, new(big.Rat).Quo(row[len(rows)], row[p]))
	}
	return solution
}

// wholesOf is all wine of some casks.
func wholesOf(l []api.BlendCask, casks []int) []*big.Rat {
	var amounts []*big.Rat
	for n, c := range l {
		amount := new(big.Rat)
		if slices.Contains(casks, n) {
			amount = ratio(c.Volume, 1)
		}
		amounts = append(amounts, amount)
	}
	return amounts
}

func plainWholeMeets(l []api.BlendCask, s api.BlendSample, casks []int) bool {
	amounts := wholesOf(l, casks)
	return plainVolume(amounts).Cmp(ratio(s.Volume, 1)) >= 0 && plainDistance(l, s, amounts).Sign() == 0
}

// plainBestWhole is the best one of all sets of casks.
func plainBestWhole(l []api.BlendCask, s api.BlendSample) ([]int, *big.Rat) {
	var best []int
	var least *big.Rat
	for mask := 1; mask < 1<<len(l); mask++ {
		var casks []int
		for n := range l {
			if mask>>n&1 == 1 {
				casks = append(casks, n)
			}
		}
		if !plainWholeMeets(l, s, casks) {
			continue
		}
		cost := plainCost(l, wholesOf(l, casks))
		isBetter := least == nil || cost.Cmp(least) < 0
		if !isBetter && cost.Cmp(least) == 0 {
			isBetter = len(casks) < len(best) || len(casks) == len(best) && slices.Compare(casks, best) < 0
		}
		if isBetter {
			best, least = casks, cost
		}
	}
	return best, least
}

// told is a fraction as two numbers.
func told(x *big.Rat) [2]int { return [2]int{int(x.Num().Int64()), int(x.Denom().Int64())} }

func down(x *big.Rat) int { return int(new(big.Int).Div(x.Num(), x.Denom()).Int64()) }

func up(x *big.Rat) int { return -down(new(big.Rat).Neg(x)) }

// some is a number up to most, often one of the ends or of the first ones.
func some(r *rand.Rand, most int) int {
	switch r.Intn(4) {
	case 0:
		return r.Intn(2) * most
	case 1:
		return r.Intn(min(3, most) + 1)
	}
	return r.Intn(most + 1)
}

// someCasks is so many random casks at most.
func someCasks(r *rand.Rand, most int) []api.BlendCask {
	values, volumes, costs := []int{2, 20, 1000}[r.Intn(3)], []int{3, 50, 10000}[r.Intn(3)], []int{2, 1000}[r.Intn(2)]
	var l []api.BlendCask
	for n := range 1 + r.Intn(most) {
		c := cask(fmt.Sprint("c", n), some(r, volumes), some(r, costs))
		for kind := range c.Values {
			c.Values[kind] = some(r, values)
		}
		l = append(l, c)
	}
	return l
}

// someParts is random parts of casks.
func someParts(r *rand.Rand, l []api.BlendCask) api.BlendParts {
	p := parts([]int{1, 1, 2, 7, 1000003, mostDen}[r.Intn(6)])
	for _, c := range l {
		p.Parts = append(p.Parts, some(r, p.Den*c.Volume))
	}
	return p
}

// someSample is a random sample; mostly its ends are near the means of a random blend, of which it wants as much.
func someSample(r *rand.Rand, l []api.BlendCask) api.BlendSample {
	p := someParts(r, l)
	s := sample(min(10000, max(1, down(plainVolume(amountsOf(p))))))
	if r.Intn(6) == 0 {
		s.Volume = 1 + some(r, 9999)
	}
	isSome := plainVolume(amountsOf(p)).Sign() > 0
	for kind := range s.Values {
		least := r.Intn(1001)
		switch how := r.Intn(7); {
		case how == 0:
			s.Values[kind] = from(least, least+r.Intn(1001-least))
		case how < 4 && isSome:
			mean := plainMean(l, amountsOf(p), kind)
			s.Values[kind] = from(max(0, down(mean)-r.Intn(2)), min(1000, up(mean)+r.Intn(2)))
		case how == 4 && isSome:
			s.Values[kind] = just(down(plainMean(l, amountsOf(p), kind)))
		}
	}
	return s
}

// someBlend is a random blend that is as much as is wanted, if there is enough wine: random weights of casks, taken one by one.
func someBlend(r *rand.Rand, l []api.BlendCask, s api.BlendSample) (api.BlendParts, bool) {
	p := parts(1+r.Intn(50), make([]int, len(l))...)
	left := p.Den * s.Volume
	for range 3 {
		for _, n := range r.Perm(len(l)) {
			more := min(left, p.Den*l[n].Volume-p.Parts[n])
			if r.Intn(3) > 0 {
				more = r.Intn(more + 1)
			}
			p.Parts[n] += more
			left -= more
		}
	}
	for n, c := range l {
		more := min(left, p.Den*c.Volume-p.Parts[n])
		p.Parts[n] += more
		left -= more
	}
	return p, left == 0
}

// someWeights is random weights; often a change of those that Best or Failure finds.
func someWeights(r *rand.Rand, l []api.BlendCask, s api.BlendSample) api.BlendWeights {
	most := []int{2, 30, 1000, mostWeight}[r.Intn(4)]
	w := weights(1+some(r, min(most, mostDen-1)), some(r, most)-some(r, most), kinds(), kinds(), make([]int, len(l))...)
	for kind := range api.BlendKinds {
		w.High[kind], w.Low[kind] = r.Intn(2)*some(r, most), r.Intn(2)*some(r, most)
	}
	for n := range l {
		w.Casks[n] = r.Intn(2) * some(r, most)
	}
	if b, e := Best(l, s); e == api.OK && r.Intn(2) == 0 {
		w = b.Weights
	}
	if f, e := Failure(l, s); e == api.OK && r.Intn(2) == 0 {
		w = f
	}
	switch kind := r.Intn(api.BlendKinds); r.Intn(5) {
	case 0:
		w.Each += r.Intn(3) - 1
	case 1:
		w.Casks[r.Intn(len(l))] += r.Intn(2)
	case 2:
		w.High[kind] += r.Intn(2)
	case 3:
		w.Low[kind] += r.Intn(2)
	}
	w.Each = max(-mostWeight, min(w.Each, mostWeight))
	for kind := range api.BlendKinds {
		w.High[kind], w.Low[kind] = min(w.High[kind], mostWeight), min(w.Low[kind], mostWeight)
	}
	for n := range w.Casks {
		w.Casks[n] = min(w.Casks[n], mostWeight)
	}
	return w
}
