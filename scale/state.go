package scale

import (
	"slices"

	"criadera/api"
	"criadera/texts"
)

// CheckState returns the first error of a state, and the number of the cask that has it (0 if none is named).
func CheckState(s api.ScaleState) (int, api.Errno) {
	if len(s.Casks) > api.MaxScaleCasks {
		return 0, api.ErrLarge
	}
	if n, e := checkCasks(s.Casks); e != api.OK {
		return n, e
	}
	if _, e := firstWrong([]api.ScaleWine{s.In, s.Sold, s.Lost}, CheckWine); e != api.OK {
		return 0, e
	}
	if !isBalanced(s) {
		return 0, api.ErrSum
	}
	return 0, api.OK
}

func checkCasks(l []api.ScaleCask) (int, api.Errno) {
	seen := map[string]bool{}
	return firstWrong(l, func(c api.ScaleCask) api.Errno {
		if !texts.IsName(c.Name) {
			return api.ErrName
		}
		if !within(c.Capacity, 1, api.MaxVolume) {
			return api.ErrRange
		}
		volume, e := VolumeOf(c.Wine)
		if e != api.OK {
			return e
		}
		if volume > c.Capacity {
			return api.ErrFull
		}
		if seen[c.Name] {
			return api.ErrExists
		}
		seen[c.Name] = true
		return api.OK
	})
}

// isBalanced asks states whose wines are right. What they come to together need not be small, but is then not what came in.
func isBalanced(s api.ScaleState) bool {
	all, e := mixture(append(winesOf(s.Casks), s.Sold, s.Lost)).tightened()
	return e == api.OK && isSame(all, s.In)
}

func winesOf(l []api.ScaleCask) []api.ScaleWine {
	return eachOf(l, func(c api.ScaleCask) api.ScaleWine { return c.Wine })
}

func cloneState(s api.ScaleState) api.ScaleState {
	s.Casks = slices.Clone(s.Casks)
	for n, c := range s.Casks {
		s.Casks[n].Wine = cloneWine(c.Wine)
	}
	s.In, s.Sold, s.Lost = cloneWine(s.In), cloneWine(s.Sold), cloneWine(s.Lost)
	return s
}
