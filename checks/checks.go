// Package checks makes errors of what is asked of arguments, as all chapters ask it.
package checks

import (
	"criadera/api"
	"criadera/texts"
)

// First is the first error of those that are given.
func First(l ...api.Errno) api.Errno {
	for _, e := range l {
		if e != api.OK {
			return e
		}
	}
	return api.OK
}

// Unless is an error, unless something is right.
func Unless(right bool, e api.Errno) api.Errno {
	if right {
		return api.OK
	}
	return e
}

// Number asks for a number from least to most.
func Number(n, least, most int) api.Errno {
	return Unless(least <= n && n <= most, api.ErrRange)
}

// Numbers asks for numbers from least to most.
func Numbers(l []int, least, most int) api.Errno {
	_, e := Each(len(l), func(n int) api.Errno { return Number(l[n], least, most) })
	return e
}

// Each looks at so many elements by their numbers, and returns the number of the first wrong one and its error (0 and OK if there is none).
func Each(count int, errorOf func(n int) api.Errno) (int, api.Errno) {
	for n := range count {
		if e := errorOf(n); e != api.OK {
			return n, e
		}
	}
	return 0, api.OK
}

// Element asks for the number of one of so many elements.
func Element(n, count int) api.Errno { return Unless(0 <= n && n < count, api.ErrMissing) }

// Elements asks for numbers of some of so many elements, in any order, and each one as often as it likes.
func Elements(l []int, count int) api.Errno {
	_, e := Each(len(l), func(n int) api.Errno { return Element(l[n], count) })
	return e
}

// Chosen asks for the numbers of some of so many elements, ascending.
func Chosen(l []int, count int) api.Errno {
	_, e := Each(len(l), func(n int) api.Errno {
		return First(
			Element(l[n], count),
			Unless(n == 0 || l[n-1] < l[n], api.ErrOrder))
	})
	return e
}

// Range asks for ends from 0 to most, and then for their order.
func Range(r api.Range, most int) api.Errno {
	return First(Number(r.Lo, 0, most), Number(r.Hi, 0, most), Unless(r.Lo <= r.Hi, api.ErrOrder))
}

// Date asks for a day.
func Date(day int) api.Errno { return Number(day, 0, api.MaxDate) }

// Name asks for a name.
func Name(s string) api.Errno { return Unless(texts.IsName(s), api.ErrName) }
