package taste

import (
	"testing"

	"criadera/api"
)

// TestDistinguish: P7.3.
func TestDistinguish(t *testing.T) {
	second := changed(func(b *api.TasteBook) { b.Begin = 2 })
	late := chain(8, 7)
	late.Classes[7].Name = "b"
	for _, x := range []struct {
		what  string
		a, b  api.TasteBook
		marks []int
	}{
		{"the chapter's example", rules(), cured(), numbers(1, 0)},
		{"they begin in different ranks", rules(), second, nil},
		{"the first marks", rules(), changed(func(b *api.TasteBook) { b.Classes[0].Next = numbers(2, 1) }), numbers(0)},
		{"the second mark alone", rules(), changed(func(b *api.TasteBook) { b.Classes[0].Next[1] = 1 }), numbers(1)},
		{"another rank of a class", rules(), changed(func(b *api.TasteBook) { b.Classes[2].Name = "finos" }), numbers(1)},
		{"one that leads nowhere", chain(1, 0), late, make([]int, 7)},
	} {
		l, e := Distinguish(x.a, x.b)
		want(t, x.what, l, e, x.marks, api.OK)
		l, e = Distinguish(x.b, x.a)
		want(t, x.what, l, e, x.marks, api.OK)
	}
	named := changed(func(b *api.TasteBook) {
		b.Classes[0].Name, b.Classes[1].Name, b.Classes[2].Name = "mosto-1", "oloroso-x-y", "fino-"
		b.Classes[1].Reasons = words("other", "reasons")
	})
	for _, x := range []struct {
		what string
		a, b api.TasteBook
		e    api.Errno
	}{
		{"itself", rules(), rules(), api.ErrNone},
		{"further classes", rules(), double(), api.ErrNone},
		{"other names and reasons", rules(), named, api.ErrNone},
		{"a class that is not reached", rules(), changed(func(b *api.TasteBook) { b.Classes = append(b.Classes, class("palo", numbers(0, 0), "a", "a")) }), api.ErrNone},
		{"longer circles of one rank", chain(8, 0), chain(7, 0), api.ErrNone},
		{"another mark", rules(), changed(func(b *api.TasteBook) { b.Marks[1], b.Begin = "gancho", 2 }), api.ErrClash},
		{"marks in another order", rules(), changed(func(b *api.TasteBook) { b.Marks = words("palma", "raya") }), api.ErrClash},
		{"a mark in other letters", rules(), changed(func(b *api.TasteBook) { b.Marks[0] = "Raya" }), api.ErrClash},
		{"fewer marks", broad(3, 2), broad(2, 2), api.ErrClash},
		{"more marks", broad(2, 2), broad(3, 2), api.ErrClash},
	} {
		l, e := Distinguish(x.a, x.b)
		refused(t, x.what, l, e, x.e)
		l, e = Distinguish(x.b, x.a)
		refused(t, x.what, l, e, x.e)
	}
}

// TestLatest: P7.3: two circles, of 8 and of 7 classes, whose ranks are not told apart by fewer than 13 marks.
func TestLatest(t *testing.T) {
	eight, seven := chain(8, 0), chain(7, 0)
	eight.Classes[6].Name, seven.Classes[6].Name = "b-6", "b-6"
	l, e := Distinguish(eight, seven)
	want(t, "one class of another rank", l, e, make([]int, 13), api.OK)
}

// TestAlike: P7.3.
func TestAlike(t *testing.T) {
	late := chain(8, 7)
	late.Classes[7].Name = "b"
	for _, x := range []struct {
		what string
		b    api.TasteBook
		sets [][]int
	}{
		{"the chapter's rule book", rules(), [][]int{{0}, {1}, {2}}},
		{"the chapter's example", double(), [][]int{{0}, {1}, {2, 3}}},
		{"one rank", chain(8, 3), [][]int{{0, 1, 2, 3, 4, 5, 6, 7}}},
		{"the last one of another rank", late, [][]int{{0}, {1}, {2}, {3}, {4}, {5}, {6}, {7}}},
		{"a circle of six, two ranks in turns", turns(6), [][]int{{0, 2, 4}, {1, 3, 5}}},
		{"one class", broad(6, 1), [][]int{{0}}},
		{"also those that are not reached", changed(func(b *api.TasteBook) {
			b.Begin = 1
			b.Classes = append(b.Classes, class("mosto-2", numbers(1, 2), "a", "a"))
		}), [][]int{{0, 3}, {1}, {2}}},
		{"one rank, but not alike", changed(func(b *api.TasteBook) {
			b.Classes = append(b.Classes, class("mosto-2", numbers(1, 1), "a", "a"))
		}), [][]int{{0}, {1}, {2}, {3}}},
	} {
		sets, e := Alike(x.b)
		want(t, x.what, sets, e, x.sets, api.OK)
	}
}

// turns is a circle of classes, of two ranks in turns.
func turns(count int) api.TasteBook {
	b := chain(count, 0)
	for n := 1; n < count; n += 2 {
		b.Classes[n].Name = "b" + b.Classes[n].Name[1:]
	}
	return b
}

// TestLeast: P7.3.
func TestLeast(t *testing.T) {
	back := api.TasteBook{Marks: words("raya", "palma"), Begin: 2, Classes: []api.TasteClass{
		class("fino", numbers(0, 1), "a", "b"),
		class("palo", numbers(1, 1), "c", "d"),
		class("mosto", numbers(1, 0), "e", "f")}}
	unreached := api.TasteBook{Marks: words("raya"), Begin: 3, Classes: []api.TasteClass{
		class("a-0", numbers(2), "r0"),
		class("b-1", numbers(1), "r1"),
		class("a-2", numbers(4), "r2"),
		class("a-3", numbers(2), "r3"),
		class("b-4", numbers(2), "r4")}}
	for _, x := range []struct {
		what     string
		b, least api.TasteBook
	}{
		{"the chapter's rule book", rules(), rules()},
		{"the chapter's example", double(), rules()},
		{"one rank", chain(8, 3), chain(1, 0)},
		{"a circle of six, two ranks in turns", turns(6), turns(2)},
		{"what is not reached is left out", changed(func(b *api.TasteBook) { b.Begin = 1 }), bookWith(class("oloroso", numbers(0, 0), "keep", "keep"))},
		{"numbered anew", back, bookWith(
			class("mosto", numbers(1, 2), "e", "f"),
			class("palo", numbers(1, 1), "c", "d"),
			class("fino", numbers(2, 1), "a", "b"))},
		{"the first one of a set that is reached", unreached, api.TasteBook{Marks: words("raya"), Classes: []api.TasteClass{
			class("a-3", numbers(1), "r3"), class("a-2", numbers(2), "r2"), class("b-4", numbers(1), "r4")}}},
		{"the first one by its number, not by its marks", api.TasteBook{Marks: words("raya"), Begin: 1, Classes: []api.TasteClass{
			class("a-0", numbers(1), "r0"), class("a-1", numbers(0), "r1")}}, api.TasteBook{Marks: words("raya"), Classes: []api.TasteClass{class("a-0", numbers(0), "r0")}}},
	} {
		least, e := Least(x.b)
		want(t, x.what, least, e, x.least, api.OK)
	}
}
