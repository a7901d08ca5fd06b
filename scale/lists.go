package scale

import (
	"criadera/api"
	"criadera/checks"
)

// firstWrong looks through a list, and returns the number of its first wrong element and the error (0 and OK if there is none).
func firstWrong[T any](l []T, check func(x T) api.Errno) (int, api.Errno) {
	return checks.Each(len(l), func(n int) api.Errno { return check(l[n]) })
}

// allOf reads all elements of a list, and returns nothing if one of them cannot be read.
func allOf[T, R any](l []T, read func(x T) (R, bool)) ([]R, bool) {
	out := make([]R, 0, len(l))
	for _, x := range l {
		r, ok := read(x)
		if !ok {
			return nil, false
		}
		out = append(out, r)
	}
	return out, true
}

// eachOf makes a list of what is made of each element.
func eachOf[T, R any](l []T, made func(x T) R) []R {
	out := make([]R, 0, len(l))
	for _, x := range l {
		out = append(out, made(x))
	}
	return out
}
