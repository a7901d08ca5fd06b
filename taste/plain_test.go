package taste

import (
	"fmt"
	"iter"
	"math/rand"
	"slices"

	"criadera/api"
)

// The chapter's definitions, told anew: all marks are tried in their order, classes are told apart by going on until nothing changes, and glasses are counted cask by cask.

// plainRank is a name up to its first "-".
func plainRank(name string) string {
	for i := range len(name) {
		if name[i] == '-' {
			return name[:i]
		}
	}
	return name
}

// plainEnd is the last class of the walk of marks from a class.
func plainEnd(b api.TasteBook, class int, marks []int) int {
	for _, mark := range marks {
		class = b.Classes[class].Next[mark]
	}
	return class
}

// lists yields all lists of so many marks, in their order, up to a length.
func lists(marks, longest int) iter.Seq[[]int] {
	return func(yield func(l []int) bool) {
		for length := range longest + 1 {
			l := make([]int, length)
			for more := true; more; more = isNext(l, marks) {
				if !yield(slices.Clone(l)) {
					return
				}
			}
		}
	}
}

// isNext makes a list the next one of its length, unless it is the last one.
func isNext(l []int, marks int) bool {
	for i := len(l) - 1; i >= 0; i-- {
		l[i]++
		if l[i] < marks {
			return true
		}
		l[i] = 0
	}
	return false
}

// plainFirst is the first marks for which something is so, or nothing and false.
func plainFirst(b api.TasteBook, longest int, isSo func(marks []int) bool) ([]int, bool) {
	for l := range lists(len(b.Marks), longest) {
		if isSo(l) {
			return l, true
		}
	}
	return nil, false
}

// plainSheetTo is the first marks that reach a class: a shortest way has no class twice.
func plainSheetTo(b api.TasteBook, class int) ([]int, bool) {
	return plainFirst(b, len(b.Classes), func(marks []int) bool { return plainEnd(b, b.Begin, marks) == class })
}

// plainBehind tells of each class whether some marks lead to it from a class.
func plainBehind(b api.TasteBook, class int) []bool {
	isBehind := make([]bool, len(b.Classes))
	isBehind[class] = true
	for range b.Classes {
		for from, c := range b.Classes {
			for _, to := range c.Next {
				isBehind[to] = isBehind[to] || isBehind[from]
			}
		}
	}
	return isBehind
}

// plainApart is the first marks by which the ranks of two rule books differ, among those of a length.
func plainApart(a, b api.TasteBook, longest int) ([]int, bool) {
	return plainFirst(a, longest, func(marks []int) bool {
		one, other := a.Classes[plainEnd(a, a.Begin, marks)], b.Classes[plainEnd(b, b.Begin, marks)]
		return plainRank(one.Name) != plainRank(other.Name)
	})
}

// plainKinds is a number of each class; alike classes have the same. Classes of one rank are of one kind at first, and are told apart by the kinds to which marks lead, over and over.
func plainKinds(b api.TasteBook) []int {
	kinds := make([]int, len(b.Classes))
	for range len(b.Classes) + 1 {
		told := map[string]int{}
		next := make([]int, len(b.Classes))
		for class, c := range b.Classes {
			s := fmt.Sprint(plainRank(c.Name), kinds[class])
			for _, to := range c.Next {
				s += fmt.Sprint(" ", kinds[to])
			}
			if _, ok := told[s]; !ok {
				told[s] = len(told)
			}
			next[class] = told[s]
		}
		kinds = next
	}
	return kinds
}

func plainAlike(b api.TasteBook) [][]int {
	kinds := plainKinds(b)
	sets := make([][]int, slices.Max(kinds)+1)
	for class, kind := range kinds {
		sets[kind] = append(sets[kind], class)
	}
	return sets
}

// plainLeast names the kinds that are reached by the first marks that reach one of their classes, all marks tried in their order.
func plainLeast(b api.TasteBook) api.TasteBook {
	kinds, isReached := plainKinds(b), plainBehind(b, b.Begin)
	var order []int
	for marks := range lists(len(b.Marks), len(b.Classes)) {
		if kind := kinds[plainEnd(b, b.Begin, marks)]; !slices.Contains(order, kind) {
			order = append(order, kind)
		}
	}
	out := api.TasteBook{Marks: b.Marks}
	for _, kind := range order {
		first := 0
		for kinds[first] != kind || !isReached[first] {
			first++
		}
		c := class(b.Classes[first].Name, nil, b.Classes[first].Reasons...)
		for _, to := range b.Classes[first].Next {
			c.Next = append(c.Next, slices.Index(order, kinds[to]))
		}
		out.Classes = append(out.Classes, c)
	}
	return out
}

// plainCounts is how often a taster gave each mark to each cask.
func plainCounts(p api.TastePanel, taster int) [][]int {
	counts := make([][]int, p.Casks)
	for cask := range counts {
		counts[cask] = make([]int, p.Marks)
	}
	for glass, cask := range p.Glasses {
		counts[cask][p.Tasters[taster][glass]]++
	}
	return counts
}

// pairsOf is how many pairs so many glasses make.
func pairsOf(glasses int) int { return glasses * (glasses - 1) / 2 }

// plainSteady counts the glasses of each cask, and those of them that got the same mark.
func plainSteady(p api.TastePanel, taster int) api.TasteSteady {
	var s api.TasteSteady
	for _, counts := range plainCounts(p, taster) {
		glasses := 0
		for _, count := range counts {
			glasses += count
			s.Same += pairsOf(count)
		}
		s.Of += pairsOf(glasses)
	}
	return s
}

// plainMark is the mark that was given more often than each other one, or -1.
func plainMark(counts []int) int {
	for mark, count := range counts {
		isGreatest := count > 0
		for other, n := range counts {
			isGreatest = isGreatest && (other == mark || n < count)
		}
		if isGreatest {
			return mark
		}
	}
	return -1
}

// someBook is a random rule book with up to so many marks and classes, of few ranks.
func someBook(r *rand.Rand, marks, classes int) api.TasteBook {
	b := broad(1+r.Intn(marks), 1+r.Intn(classes))
	ranks := words("a", "b", "cc")[:1+r.Intn(3)]
	b.Begin = r.Intn(len(b.Classes))
	for n := range b.Classes {
		c := &b.Classes[n]
		c.Name = fmt.Sprint(ranks[r.Intn(len(ranks))], "-", n)
		for mark := range b.Marks {
			c.Next[mark], c.Reasons[mark] = r.Intn(len(b.Classes)), fmt.Sprint("r", r.Intn(3))
		}
	}
	if r.Intn(2) == 0 {
		b.Classes[0].Name = plainRank(b.Classes[0].Name)
	}
	return b
}

// turned is a rule book whose classes stand in another order.
func turned(r *rand.Rand, b api.TasteBook) api.TasteBook {
	places := r.Perm(len(b.Classes))
	out := copied(b)
	out.Begin = places[b.Begin]
	for n, c := range copied(b).Classes {
		for mark, to := range c.Next {
			c.Next[mark] = places[to]
		}
		out.Classes[places[n]] = c
	}
	return out
}

// somewhatOther is a rule book with the same marks: in another order, with one other step, or another one.
func somewhatOther(r *rand.Rand, b api.TasteBook) api.TasteBook {
	if r.Intn(4) == 0 {
		for {
			if other := someBook(r, len(b.Marks), len(b.Classes)); len(other.Marks) == len(b.Marks) {
				return other
			}
		}
	}
	out := turned(r, b)
	if r.Intn(2) == 0 {
		c := out.Classes[r.Intn(len(b.Classes))]
		c.Next[r.Intn(len(b.Marks))] = r.Intn(len(b.Classes))
	}
	return out
}

func someMarks(r *rand.Rand, marks, most int) []int {
	var l []int
	for range r.Intn(most + 1) {
		l = append(l, r.Intn(marks))
	}
	return l
}

// somePanel is a random panel.
func somePanel(r *rand.Rand) api.TastePanel {
	p := api.TastePanel{Casks: 1 + r.Intn(5), Marks: 1 + r.Intn(4)}
	for range 1 + r.Intn(12) {
		p.Glasses = append(p.Glasses, r.Intn(p.Casks))
	}
	for range 1 + r.Intn(5) {
		habit := r.Intn(4)
		var marks []int
		for _, cask := range p.Glasses {
			mark := (cask + habit) % p.Marks
			if r.Intn(4) < habit {
				mark = r.Intn(p.Marks)
			}
			marks = append(marks, mark)
		}
		p.Tasters = append(p.Tasters, marks)
	}
	return p
}

// someShare is a random fraction from 0 to 1 in lowest terms.
func someShare(r *rand.Rand) api.Frac {
	for {
		den := 1 + r.Intn(12)
		num := r.Intn(den + 1)
		if f := share(num, den); shareError(f) == api.OK {
			return f
		}
	}
}

// someTasters is random tasters of a panel, ascending.
func someTasters(r *rand.Rand, p api.TastePanel) []int {
	var l []int
	for taster := range p.Tasters {
		if r.Intn(2) == 0 {
			l = append(l, taster)
		}
	}
	return l
}
