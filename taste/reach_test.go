package taste

import (
	"fmt"
	"testing"

	"criadera/api"
)

// TestReachable: P7.2.
func TestReachable(t *testing.T) {
	for _, x := range []struct {
		what    string
		b       api.TasteBook
		classes []int
	}{
		{"the chapter's rule book", rules(), numbers(0, 1, 2)},
		{"from the class that leads to itself", changed(func(b *api.TasteBook) { b.Begin = 1 }), numbers(1)},
		{"from the last class", changed(func(b *api.TasteBook) { b.Begin = 2 }), numbers(1, 2)},
		{"the last one first", changed(func(b *api.TasteBook) { b.Begin, b.Classes[2].Next[0] = 2, 0 }), numbers(0, 1, 2)},
		{"each one by itself", broad(6, 8), numbers(0)},
		{"one behind the other", chain(8, 7), numbers(0, 1, 2, 3, 4, 5, 6, 7)},
		{"a circle from the middle", func() api.TasteBook { b := chain(8, 2); b.Begin = 5; return b }(), numbers(2, 3, 4, 5, 6, 7)},
	} {
		l, e := Reachable(x.b)
		want(t, x.what, l, e, x.classes, api.OK)
	}
}

// TestSheetTo: P7.2.
func TestSheetTo(t *testing.T) {
	back := changed(func(b *api.TasteBook) { b.Begin, b.Classes[2].Next[0] = 2, 0 })
	same := changed(func(b *api.TasteBook) { b.Classes[0].Next[0] = 2 })
	for _, x := range []struct {
		b     api.TasteBook
		class int
		marks []int
	}{
		{rules(), 0, nil}, {rules(), 1, numbers(0)}, {rules(), 2, numbers(1)},
		{double(), 3, numbers(1, 1)},
		{back, 2, nil}, {back, 0, numbers(0)}, {back, 1, numbers(0, 0)},
		{same, 2, numbers(0)}, {same, 1, numbers(0, 0)},
		{chain(8, 0), 7, make([]int, 7)},
	} {
		l, e := SheetTo(x.b, x.class)
		want(t, fmt.Sprint("to ", x.class), l, e, x.marks, api.OK)
	}
	for _, n := range outside(0, 2) {
		l, e := SheetTo(rules(), n)
		refused(t, fmt.Sprint("to ", n), l, e, api.ErrMissing)
	}
	for n, e := range map[int]api.Errno{0: api.ErrNone, 2: api.ErrNone, 3: api.ErrMissing} {
		l, f := SheetTo(changed(func(b *api.TasteBook) { b.Begin = 1 }), n)
		refused(t, fmt.Sprint("to ", n), l, f, e)
	}
}

// TestTrapped: P7.2.
func TestTrapped(t *testing.T) {
	for _, x := range []struct {
		what    string
		b       api.TasteBook
		classes []int
	}{
		{"the chapter's rule book", rules(), numbers(1)},
		{"fino leads to itself", cured(), numbers(1, 2)},
		{"whether it is reached or not", changed(func(b *api.TasteBook) { b.Begin = 2 }), numbers(1)},
		{"all by themselves", broad(6, 8), numbers(0, 1, 2, 3, 4, 5, 6, 7)},
		{"one rank", chain(8, 0), numbers(0, 1, 2, 3, 4, 5, 6, 7)},
		{"another rank at the end", func() api.TasteBook { b := chain(8, 7); b.Classes[7].Name = "b-7"; return b }(), numbers(7)},
		{"another rank that leads back", func() api.TasteBook { b := chain(8, 0); b.Classes[7].Name = "b-7"; return b }(), nil},
		{"two of one rank", changed(func(b *api.TasteBook) {
			b.Classes[1], b.Classes[2] = class("fino-1", numbers(2, 2), "a", "a"), class("fino-2", numbers(1, 1), "a", "a")
		}), numbers(1, 2)},
		{"two of one rank, one of which leads to another one", changed(func(b *api.TasteBook) {
			b.Classes[1], b.Classes[2] = class("fino-1", numbers(2, 2), "a", "a"), class("fino-2", numbers(1, 0), "a", "a")
		}), nil},
		{"the rank is the whole name in front of a -", changed(func(b *api.TasteBook) {
			b.Classes[1], b.Classes[2] = class("fino", numbers(2, 2), "a", "a"), class("finos", numbers(1, 1), "a", "a")
		}), nil},
		{"a rank in other letters", changed(func(b *api.TasteBook) {
			b.Classes[1], b.Classes[2] = class("fino", numbers(2, 2), "a", "a"), class("Fino-1", numbers(1, 1), "a", "a")
		}), nil},
		{"what stands behind the first -", changed(func(b *api.TasteBook) {
			b.Classes[1], b.Classes[2] = class("fino-a-1", numbers(2, 2), "a", "a"), class("fino-b-1", numbers(1, 1), "a", "a")
		}), numbers(1, 2)},
		{"nothing behind the -", changed(func(b *api.TasteBook) {
			b.Classes[1], b.Classes[2] = class("fino-", numbers(2, 2), "a", "a"), class("fino", numbers(1, 1), "a", "a")
		}), numbers(1, 2)},
	} {
		l, e := Trapped(x.b)
		want(t, x.what, l, e, x.classes, api.OK)
	}
}
