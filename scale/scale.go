// Package scale is chapter 1: wine in casks, exactly and vintage by vintage, the acts that change it, and systems of scales with their language. See shared/doc/01-scale.md.
package scale

// The most digits of numbers: of acts and of systems, and of states.
const (
	digitsOfActs   = 9
	digitsOfStates = 18
)

// within tells whether n is from least to most.
func within(n, least, most int) bool { return least <= n && n <= most }
