package plan

import (
	"fmt"
	"math/big"
	"math/bits"
	"math/rand"
	"slices"

	"criadera/api"
)

// The chapter told anew, as plainly as its definitions are: in fractions, by trying all corners and all draws.

func ratio(num, den int) *big.Rat { return big.NewRat(int64(num), int64(den)) }

func product(a *big.Rat, times int) *big.Rat { return new(big.Rat).Mul(a, ratio(times, 1)) }

// sumOf is the sum of all numbers, each one so many times.
func sumOf(l []*big.Rat, times []int) *big.Rat {
	sum := new(big.Rat)
	for i, x := range l {
		sum.Add(sum, product(x, times[i]))
	}
	return sum
}

// over is numbers divided by den.
func over(l []int, den int) []*big.Rat {
	var out []*big.Rat
	for _, n := range l {
		out = append(out, ratio(n, den))
	}
	return out
}

func drawsOf(x api.PlanPoint) []*big.Rat { return over(x.Parts, x.Den) }

// plainAllows tells whether draws are a point that is allowed.
func plainAllows(p api.PlanProgram, draws []*big.Rat) bool {
	for i, x := range draws {
		if x.Sign() < 0 || x.Cmp(ratio(p.Most[i], 1)) > 0 {
			return false
		}
	}
	for _, d := range p.Demands {
		if sumOf(draws, d.Coefs).Cmp(ratio(d.Amount, 1)) > 0 {
			return false
		}
	}
	return true
}

// plainBest is all corners of greatest gain, and this gain; nothing if no point is allowed. A corner is the only point at which some draws are 0, some are their Most, and some demands are binding.
func plainBest(p api.PlanProgram) ([][]*big.Rat, *big.Rat) {
	many := len(p.Most)
	var equations [][]int
	for i, most := range p.Most {
		zero, top := make([]int, many+1), make([]int, many+1)
		zero[i], top[i], top[many] = 1, 1, most
		equations = append(equations, zero, top)
	}
	for _, d := range p.Demands {
		equations = append(equations, append(slices.Clone(d.Coefs), d.Amount))
	}
	var best [][]*big.Rat
	var greatest *big.Rat
	for mask := range 1 << len(equations) {
		if bits.OnesCount(uint(mask)) != many {
			continue
		}
		var rows [][]*big.Rat
		for n, row := range equations {
			if mask>>n&1 == 1 {
				rows = append(rows, over(row, 1))
			}
		}
		draws := onlySolution(rows)
		if draws == nil || !plainAllows(p, draws) {
			continue
		}
		gain := sumOf(draws, p.Gain)
		if greatest == nil || gain.Cmp(greatest) > 0 {
			best, greatest = nil, gain
		}
		if gain.Cmp(greatest) == 0 {
			best = append(best, draws)
		}
	}
	return best, greatest
}

// onlySolution takes equations from each other, and is nothing if they have no solution, or several.
func onlySolution(rows [][]*big.Rat) []*big.Rat {
	for p := range rows {
		found := slices.IndexFunc(rows[p:], func(row []*big.Rat) bool { return row[p].Sign() != 0 })
		if found < 0 {
			return nil
		}
		rows[p], rows[p+found] = rows[p+found], rows[p]
		for i := range rows {
			if i == p || rows[i][p].Sign() == 0 {
				continue
			}
			by := new(big.Rat).Quo(rows[i][p], rows[p][p])
			for k := range rows[i] {
				rows[i][k] = new(big.Rat).Sub(rows[i][k], new(big.Rat).Mul(by, rows[p][k]))
			}
		}
	}
	var solution []*big.Rat
	for p, row := range rows {
		solution = append(solution, new(big.Rat).Quo(row[len(rows)], row[p]))
	}
	return solution
}

// plainPut is what weights put on each draw, and their bound.
func plainPut(p api.PlanProgram, w api.PlanWeights) ([]*big.Rat, *big.Rat) {
	put, bound := over(w.Top, w.Den), sumOf(over(w.Top, w.Den), p.Most)
	for n, weight := range over(w.Demands, w.Den) {
		bound.Add(bound, product(weight, p.Demands[n].Amount))
		for i, coef := range p.Demands[n].Coefs {
			put[i] = new(big.Rat).Add(put[i], product(weight, coef))
		}
	}
	return put, bound
}

// plainProves tells whether weights put at least so much on each draw.
func plainProves(p api.PlanProgram, w api.PlanWeights, least []int) bool {
	put, _ := plainPut(p, w)
	for i, x := range put {
		if x.Cmp(ratio(least[i], 1)) < 0 {
			return false
		}
	}
	return true
}

func plainRefutes(p api.PlanProgram, w api.PlanWeights) bool {
	_, bound := plainPut(p, w)
	return plainProves(p, w, make([]int, len(p.Most))) && bound.Sign() < 0
}

// fracOf is a small fraction.
func fracOf(x *big.Rat) api.Frac {
	return frac(int(x.Num().Int64()), int(x.Denom().Int64()))
}

func isSmall(x *big.Rat) bool {
	limit := big.NewInt(1000000000)
	return x.Num().CmpAbs(limit) <= 0 && x.Denom().Cmp(limit) <= 0
}

// down is a number, rounded down, up the number rounded up.
func down(x *big.Rat) int { return int(new(big.Int).Div(x.Num(), x.Denom()).Int64()) }

func up(x *big.Rat) int { return -down(new(big.Rat).Neg(x)) }

// plainFlows is the flows of all scales with losses that are known.
func plainFlows(losses []int, draw int) []int {
	var l []int
	for _, loss := range losses {
		draw += loss
		l = append(l, draw)
	}
	return l
}

// someLosses is one loss of each scale.
func someLosses(s api.PlanSystem, of func(loss api.Range) int) []int {
	var l []int
	for _, x := range s.Scales {
		l = append(l, of(x.Loss))
	}
	return l
}

func leastLoss(loss api.Range) int { return loss.Lo }

func greatestLoss(loss api.Range) int { return loss.Hi }

func anyLoss(r *rand.Rand) func(loss api.Range) int {
	return func(loss api.Range) int { return loss.Lo + r.Intn(loss.Hi-loss.Lo+1) }
}

// plainSteady is the steady age of a scale with losses that are known; nothing if there is none.
func plainSteady(s api.PlanSystem, losses []int, draw, scale int) *big.Rat {
	age, flows := ratio(s.New, 1), plainFlows(losses, draw)
	for n := scale; n < len(s.Scales); n++ {
		if flows[n] == 0 {
			return nil
		}
		age.Add(age, ratio(1000*s.Scales[n].Volume, flows[n]))
	}
	return age
}

// plainBroken is the first scale that a draw breaks for ever, -1 if there is none.
func plainBroken(s api.PlanSystem, draw int) int {
	losses := someLosses(s, greatestLoss)
	for n, flow := range plainFlows(losses, draw) {
		age := plainSteady(s, losses, draw, n)
		if flow > s.Scales[n].Volume || age != nil && age.Cmp(ratio(s.Scales[n].Least, 1)) < 0 {
			return n
		}
	}
	return -1
}

// plainYear is true ages behind a year with losses that are known, and whether there is wine enough.
func plainYear(s api.PlanSystem, ages []*big.Rat, losses []int, draw int) ([]*big.Rat, bool) {
	var l []*big.Rat
	for n, flow := range plainFlows(losses, draw) {
		volume, next := s.Scales[n].Volume, ratio(s.New, 1)
		if flow > volume {
			return nil, false
		}
		if n+1 < len(ages) {
			next = ages[n+1]
		}
		sum := new(big.Rat).Add(product(ages[n], volume-flow), product(next, flow))
		l = append(l, sum.Add(sum.Quo(sum, ratio(volume, 1)), ratio(1000, 1)))
	}
	return l, true
}

// endsOf is ends of ages as fractions.
func endsOf(l []api.Range, end func(r api.Range) int) []*big.Rat {
	var out []*big.Rat
	for _, r := range l {
		out = append(out, ratio(end(r), 1))
	}
	return out
}

// plainBehind is the ages behind a year by the chapter's definition: each scale with the flow that suits it, of the least and the greatest one. Each flow is that of all least or of all greatest losses.
func plainBehind(s api.PlanSystem, begin []api.Range, draw int) ([]api.Range, bool) {
	out := make([]api.Range, len(begin))
	for _, losses := range [][]int{someLosses(s, leastLoss), someLosses(s, greatestLoss)} {
		youngest, ok := plainYear(s, endsOf(begin, leastLoss), losses, draw)
		oldest, _ := plainYear(s, endsOf(begin, greatestLoss), losses, draw)
		if !ok {
			return nil, false
		}
		for n := range out {
			if out[n] == (api.Range{}) {
				out[n] = from(down(youngest[n]), up(oldest[n]))
			}
			out[n] = from(min(out[n].Lo, down(youngest[n])), max(out[n].Hi, up(oldest[n])))
		}
	}
	return out, true
}

// plainIsShort tells whether a scale is short behind a year, or a flow too great.
func plainIsShort(s api.PlanSystem, begin []api.Range, draw int) bool {
	ages, ok := plainBehind(s, begin, draw)
	if !ok {
		return true
	}
	for n, age := range ages {
		if age.Lo < s.Scales[n].Least {
			return true
		}
	}
	return false
}

// someProgram is a random programme; many of its demands are made such that a random point keeps them just so.
func someProgram(r *rand.Rand, mostDraws, mostDemands int) api.PlanProgram {
	var p api.PlanProgram
	size, coef := []int{3, 50, 1000000}[r.Intn(3)], []int{1, 5, 100}[r.Intn(3)]
	for range 1 + r.Intn(mostDraws) {
		p.Most = append(p.Most, r.Intn(size+1))
		p.Gain = append(p.Gain, r.Intn(2*coef+1)-coef)
	}
	known := somePoint(r, p)
	for n := range r.Intn(mostDemands + 1) {
		d := demand(fmt.Sprint("d", n), r.Intn(2*size+1)-size)
		for range p.Most {
			d.Coefs = append(d.Coefs, r.Intn(2*coef+1)-coef)
		}
		if sum := up(sumOf(drawsOf(known), d.Coefs)); r.Intn(5) > 0 && -1000000 <= sum && sum <= 1000000 {
			d.Amount = sum
		}
		p.Demands = append(p.Demands, d)
	}
	return p
}

// somePoint is a random point whose draws are at most their Most.
func somePoint(r *rand.Rand, p api.PlanProgram) api.PlanPoint {
	x := point(1 + r.Intn(4))
	for _, most := range p.Most {
		x.Parts = append(x.Parts, []int{0, most * x.Den, r.Intn(most*x.Den + 1)}[r.Intn(3)])
	}
	return x
}

// someWeights is random weights, which often prove something.
func someWeights(r *rand.Rand, p api.PlanProgram) api.PlanWeights {
	w := weights(1+r.Intn(3), nil, nil)
	for range p.Demands {
		w.Demands = append(w.Demands, r.Intn(4)*r.Intn(2))
	}
	for range p.Most {
		w.Top = append(w.Top, r.Intn(300)*r.Intn(2))
	}
	return w
}

// someSystem is a random system of volumes of at most so much.
func someSystem(r *rand.Rand, most int) api.PlanSystem {
	s := systemWith(r.Intn(2) * r.Intn(20000))
	age := s.New
	for range 1 + r.Intn(4) {
		volume := 1 + r.Intn(most)
		lo := r.Intn(2) * r.Intn(1+volume/10)
		x := scale(volume, from(lo, lo+r.Intn(2)*r.Intn(1+volume/10)), 0)
		if r.Intn(2) == 0 {
			x.Least = r.Intn(1 + min(100000, age+30000/(1+r.Intn(4))))
		}
		s.Scales = slices.Insert(s.Scales, 0, x)
		age += 10000
	}
	return s
}

// someAges is random ages of a system's scales, whichever of them is older.
func someAges(r *rand.Rand, s api.PlanSystem) []api.Range {
	var l []api.Range
	for range s.Scales {
		lo := r.Intn(50000)
		l = append(l, from(lo, lo+r.Intn(2)*r.Intn(50000)))
	}
	return l
}
