package house

import (
	"slices"

	"criadera/api"
	"criadera/certify"
	"criadera/scale"
	"criadera/taste"
)

// copiesError is the error of the house, and of each copy of a log by itself.
func copiesError(h api.House, b api.HouseBranches) api.Errno {
	for _, branch := range [][]api.HouseEntry{b.First, b.Second} {
		if _, e := CheckLog(h, slices.Concat(b.Common, branch)); e != api.OK {
			return e
		}
	}
	return api.OK
}

// Merged returns what two copies have in common, and then what each one has behind it.
func Merged(h api.House, b api.HouseBranches) ([]api.HouseEntry, api.Errno) {
	if e := copiesError(h, b); e != api.OK {
		return nil, e
	}
	all := slices.Concat(b.Common, b.First, b.Second)
	if _, e := CheckLog(h, all); e != api.OK {
		return nil, e
	}
	return all, api.OK
}

// An outcome is what a log comes to, if it is right.
type outcome struct {
	state   api.HouseState
	isRight bool
}

func outcomeOf(h api.House, log []api.HouseEntry) outcome {
	s, e := StateOf(h, log)
	return outcome{s, e == api.OK}
}

// Exchangeable returns whether two copies come to the same, whichever is told first. Both orders are tried at once.
func Exchangeable(h api.House, b api.HouseBranches) (bool, api.Errno) {
	if e := copiesError(h, b); e != api.OK {
		return false, e
	}
	tried := make(chan outcome)
	go func() { tried <- outcomeOf(h, slices.Concat(b.Common, b.Second, b.First)) }()
	one := outcomeOf(h, slices.Concat(b.Common, b.First, b.Second))
	other := <-tried
	return one.isRight && other.isRight && isSame(one.state, other.state), api.OK
}

// isSame tells whether two states of right logs are the same. What has lists of its own is compared by its text, which tells all of it.
func isSame(a, b api.HouseState) bool {
	numbers := func(s api.HouseState) [4]int { return [4]int{s.Day, s.Rate, s.Due, s.Paid} }
	return numbers(a) == numbers(b) &&
		slices.Equal(a.Sealed, b.Sealed) &&
		slices.Equal(a.Gaugings, b.Gaugings) &&
		slices.Equal(a.Moves, b.Moves) &&
		slices.Equal(a.Losses, b.Losses) &&
		slices.Equal(a.Lost, b.Lost) &&
		slices.Equal(textsOf(a), textsOf(b))
}

func textsOf(s api.HouseState) []string {
	old, _ := certify.Print(s.Old) // nothing if it has no parts
	l := []string{scale.FormatState(s.Wine), old}
	for _, x := range s.Sheets {
		l = append(l, "sheet "+taste.FormatSheet(x))
	}
	for _, c := range s.Certificates {
		l = append(l, "certificate "+certify.FormatCertificate(c))
	}
	return l
}
