package taste

import (
	"slices"

	"criadera/api"
)

// A joined is a rule book in which the first one, by number, of alike classes that are reached stands for all of them.
type joined struct {
	book
	firsts map[int]int
}

func (b book) join() joined {
	reachable := b.reachable()
	firsts := map[int]int{}
	for _, class := range reachable {
		n := slices.IndexFunc(reachable, func(other int) bool { return b.areAlike(other, class) })
		firsts[class] = reachable[n]
	}
	return joined{book: b, firsts: firsts}
}

// leads is the class that stands for the one to which a mark leads.
func (j joined) leads(class, mark int) int { return j.firsts[j.book.leads(class, mark)] }

// least is the rule book of the classes that stand for others. They are searched themselves: the first marks that reach one of them here are the first ones that reach any of those for which it stands.
func (j joined) least() api.TasteBook {
	var classes []int
	for x := range search(j.firsts[j.Begin], len(j.Marks), j.leads) {
		classes = append(classes, x.place)
	}
	out := api.TasteBook{Marks: slices.Clone(j.Marks)}
	for _, class := range classes {
		c := api.TasteClass{Name: j.Classes[class].Name, Reasons: slices.Clone(j.Classes[class].Reasons)}
		for mark := range j.Marks {
			c.Next = append(c.Next, slices.Index(classes, j.leads(class, mark)))
		}
		out.Classes = append(out.Classes, c)
	}
	return out
}

// Least returns the least rule book of a rule book.
func Least(b api.TasteBook) (api.TasteBook, api.Errno) {
	checked, e := bookOf(b)
	if e != api.OK {
		return api.TasteBook{}, e
	}
	return checked.join().least(), api.OK
}
