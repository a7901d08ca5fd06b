package age

import (
	"fmt"
	"testing"

	"criadera/api"
	"criadera/scale"
)

// want compares a value and an error. A nil list and an empty one are printed alike.
func want[T any](t *testing.T, what string, got T, e api.Errno, value T, f api.Errno) {
	t.Helper()
	if fmt.Sprintf("%+v", got) != fmt.Sprintf("%+v", value) || e != f {
		t.Errorf("%s: %+v, %d, want %+v, %d", what, got, e, value, f)
	}
}

// refused asks for an error, and for nothing beside it.
func refused[T any](t *testing.T, what string, got T, e api.Errno, f api.Errno) {
	t.Helper()
	var none T
	want(t, what, got, e, none, f)
}

// told reads the system with a text, which must be right.
func told(t *testing.T, text string) api.ScaleSystem {
	t.Helper()
	s, m, e := scale.Parse(text)
	if e != api.OK {
		t.Fatalf("%q is no system: %v, %d", text, m, e)
	}
	return s
}

// The systems of the chapter's examples, and others: cycle moves three casks round by an empty one; part has a closed set of b and c that are joined, a settled cask a, and a cask e that is empty at both ends; through sells what it fills in.
const (
	oneCask  = "system s\ncask a 100 100\ndays 80 260\ndraw a 25\nfill a 25\n"
	twoCasks = "system s\ncask a 100 100\ncask b 100 100\ndays 80\ndraw a 25\nmove b a 25\nfill b 25\n"
	exchange = "system s\ncask a 50 50\ncask b 50 50\ncask e 50 0\ndays 5\nmove a e 50\nmove b a 50\nmove e b 50\n"
	cycle    = "system s\ncask e 50 0\ncask a 50 50\ncask b 50 50\ncask c 50 50\ndays 5\nmove a e 50\nmove b a 50\nmove c b 50\nmove e c 50\n"
	part     = "system s\ncask e 90 0\ncask a 100 80\ncask b 100 40\ncask c 100 10\ndays 0 364\nmove a e 20\nfill e 60\ndraw e 60\nmove e a 20\njoin c b\n"
	through  = "system s\ncask e 90 0\ncask a 100 80\ndays 7\nfill e 60\ndraw e 60\n"
	still    = "system s\ncask e 90 0\ncask a 100 80\ncask b 100 1\ndays 7\n"
)

// thin is a cask of which 1 of so much is renewed three times in a turn.
func thin(volume int) string {
	step := "draw a 1\nfill a 1\n"
	return fmt.Sprintf("system s\ncask a %d %d\ndays 9\n", volume, volume) + step + step + step
}

// at is the range of one number.
func at(n int) api.Range { return api.Range{Lo: n, Hi: n} }

// wrongSystems is systems with an error each; none of them has a matrix.
func wrongSystems(t *testing.T) map[api.Errno]api.ScaleSystem {
	noName, noCasks, open := told(t, oneCask), told(t, oneCask), told(t, oneCask)
	noName.Name = "1"
	noCasks.Casks = nil
	open.Steps = open.Steps[:1]
	return map[api.Errno]api.ScaleSystem{api.ErrName: noName, api.ErrShape: noCasks, api.ErrOpen: open, api.ErrLarge: told(t, thin(10001))}
}

// every calls each function of the package that asks for the matrix, for one system and arguments that are wrong if bad is true, and returns what it tells, and the errors.
func every(s api.ScaleSystem, bad bool) (map[string]string, map[string]api.Errno) {
	turns, casks, n := 3, [2]int{1, 0}, 2
	if bad {
		turns, casks, n = 0, [2]int{99, -1}, -1
	}
	told, errors := map[string]string{}, map[string]api.Errno{}
	keep := func(name string, x any, e api.Errno) {
		told[name], errors[name] = fmt.Sprintf("%+v", x), e
	}
	share := api.AgeShare{Cask: casks[0], Age: n, Part: n}
	matrix, e := MatrixOf(s)
	keep("MatrixOf", matrix, e)
	entry, e := Entry(s, turns, casks)
	keep("Entry", entry, e)
	shares, e := ByReplay(s, turns)
	keep("ByReplay", shares, e)
	shares, e = ByPowers(s, turns)
	keep("ByPowers", shares, e)
	means, e := MeanDays(s, turns, n)
	keep("MeanDays", means, e)
	least, e := AtLeast(s, turns, share)
	keep("AtLeast", least, e)
	greatest, e := Greatest(s, turns, share)
	keep("Greatest", greatest, e)
	older, e := Older(s, turns, casks)
	keep("Older", older, e)
	sold, e := SoldAges(s, turns)
	keep("SoldAges", sold, e)
	reached, e := Reached(s)
	keep("Reached", reached, e)
	closed, e := Closed(s)
	keep("Closed", closed, e)
	settled, e := SettledShare(s, casks[0], n)
	keep("SettledShare", settled, e)
	ages, e := SettledMeans(s)
	keep("SettledMeans", ages, e)
	last, e := SettledSold(s)
	keep("SettledSold", last, e)
	within, e := SettledWithin(s, n)
	keep("SettledWithin", within, e)
	proof, e := ProofOf(s)
	keep("ProofOf", proof, e)
	keep("CheckProof", 0, CheckProof(s, api.AgeProof{Den: n}))
	return told, errors
}
