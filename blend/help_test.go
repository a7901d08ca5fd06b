package blend

import (
	"fmt"
	"math"
	"reflect"
	"testing"

	"criadera/api"
)

// want compares a value and an error. A nil list and an empty one are printed alike.
func want[T any](t *testing.T, what string, got T, e api.Errno, value T, f api.Errno) {
	t.Helper()
	if fmt.Sprintf("%+v", got) != fmt.Sprintf("%+v", value) || e != f {
		t.Errorf("%s: %+v, %d, want %+v, %d", what, got, e, value, f)
	}
}

// refused asks for an error, and for nothing beside it.
func refused[T any](t *testing.T, what string, got T, e api.Errno, f api.Errno) {
	t.Helper()
	var none T
	want(t, what, got, e, none, f)
}

// numbers is a list.
func numbers(l ...int) []int { return l }

func from(lo, hi int) api.Range { return api.Range{Lo: lo, Hi: hi} }

func just(n int) api.Range { return from(n, n) }

func anyValue() api.Range { return from(0, 1000) }

// kinds is four numbers, of which the last ones may be left out.
func kinds(l ...int) [api.BlendKinds]int {
	var out [api.BlendKinds]int
	copy(out[:], l)
	return out
}

func cask(name string, volume, cost int, values ...int) api.BlendCask {
	return api.BlendCask{Name: name, Volume: volume, Cost: cost, Values: kinds(values...)}
}

// casks is those of the chapter's examples.
func casks() []api.BlendCask {
	return []api.BlendCask{cask("dry", 100, 10), cask("sweet", 100, 30, 100), cask("rich", 50, 20, 200)}
}

// many is so many casks of the volume 10.
func many(count int) []api.BlendCask {
	var l []api.BlendCask
	for n := range count {
		l = append(l, cask(fmt.Sprint("c", n), 10, n))
	}
	return l
}

// changed is the casks of the examples with a change.
func changed(change func(l []api.BlendCask)) []api.BlendCask {
	l := casks()
	change(l)
	return l
}

// sample is one that asks for nothing of the kinds that are left out.
func sample(volume int, values ...api.Range) api.BlendSample {
	s := api.BlendSample{Volume: volume}
	for kind := range s.Values {
		s.Values[kind] = anyValue()
	}
	copy(s.Values[:], values)
	return s
}

// sugar is a sample of so much sugar, as in the chapter's examples.
func sugar(lo, hi int) api.BlendSample { return sample(100, from(lo, hi)) }

func parts(den int, l ...int) api.BlendParts { return api.BlendParts{Den: den, Parts: l} }

func weights(den, each int, high, low [api.BlendKinds]int, casks ...int) api.BlendWeights {
	return api.BlendWeights{Den: den, Each: each, High: high, Low: low, Casks: casks}
}

// cheap is the weights of the chapter's first example, and hopeless those of its third one.
func cheap() api.BlendWeights { return weights(20, 250, kinds(), kinds(1), 0, 0, 0) }

func hopeless() api.BlendWeights { return weights(1, 80, kinds(), kinds(1), 0, 0, 100) }

// outside is numbers that are not from least to most.
func outside(least, most int) []int {
	return numbers(least-1, most+1, math.MinInt, math.MaxInt)
}

// wrongNames is texts that are no names.
func wrongNames() []string {
	return []string{"", "9a", "-a", "abcdefghijklm", "a b", "ä", "a_", "a=b"}
}

// A wrongCask is casks with an error, and the number of the cask.
type wrongCask struct {
	what string
	l    []api.BlendCask
	n    int
	e    api.Errno
}

// wrongCasks is casks with errors, some of them with several.
func wrongCasks() []wrongCask {
	l := []wrongCask{
		{"none", nil, 0, api.ErrShape},
		{"too many", many(11), 0, api.ErrLarge},
		{"too many, and wrong ones", make([]api.BlendCask, 11), 0, api.ErrLarge},
		{"a name twice", changed(func(l []api.BlendCask) { l[2] = cask("dry", -1, -1, -1) }), 2, api.ErrExists},
		{"the first wrong cask", changed(func(l []api.BlendCask) { l[1].Cost, l[2].Name = -1, "" }), 1, api.ErrRange},
		{"wrong ones of five", append(many(4), cask("", 0, 0)), 4, api.ErrName},
	}
	for _, s := range wrongNames() {
		l = append(l, wrongCask{fmt.Sprintf("the name %q", s), changed(func(l []api.BlendCask) { l[0] = cask(s, -1, -1, -1) }), 0, api.ErrName})
	}
	for _, n := range outside(0, 10000) {
		l = append(l, wrongCask{fmt.Sprint("the volume ", n), changed(func(l []api.BlendCask) { l[1].Volume = n }), 1, api.ErrRange})
	}
	for _, n := range outside(0, 1000) {
		l = append(l, wrongCask{fmt.Sprint("the cost ", n), changed(func(l []api.BlendCask) { l[2].Cost = n }), 2, api.ErrRange})
		for kind := range api.BlendKinds {
			l = append(l, wrongCask{fmt.Sprint("the value ", n), changed(func(l []api.BlendCask) { l[0].Values[kind] = n }), 0, api.ErrRange})
		}
	}
	return l
}

// A wrongSample has an error.
type wrongSample struct {
	s api.BlendSample
	e api.Errno
}

// wrongSamples is samples with errors, some of them with several.
func wrongSamples() []wrongSample {
	l := []wrongSample{
		{api.BlendSample{}, api.ErrRange},
		{sample(0, from(1, 0)), api.ErrRange},
		{sample(1, from(1001, 1000)), api.ErrRange},
		{sample(1, from(0, -1)), api.ErrRange},
		{sample(1, from(1, 0), from(0, 1001)), api.ErrOrder},
		{sample(1, from(0, 1001), from(1, 0)), api.ErrRange},
		{sample(1, just(0), just(0), just(0), from(1000, 999)), api.ErrOrder},
	}
	for _, n := range outside(1, 10000) {
		l = append(l, wrongSample{sample(n), api.ErrRange})
	}
	for kind := range api.BlendKinds {
		for _, n := range outside(0, 1000) {
			for _, r := range []api.Range{from(n, 1000), from(0, n), just(n)} {
				s := sample(1)
				s.Values[kind] = r
				l = append(l, wrongSample{s, api.ErrRange})
			}
		}
		s := sample(1)
		s.Values[kind] = from(6, 5)
		l = append(l, wrongSample{s, api.ErrOrder})
	}
	return l
}

// A wrongPart is parts of the casks of the examples, with their error.
type wrongPart struct {
	p api.BlendParts
	e api.Errno
}

// wrongParts is parts with errors, some of them with several.
func wrongParts() []wrongPart {
	l := []wrongPart{
		{parts(0), api.ErrRange},
		{parts(1), api.ErrShape},
		{parts(1, -1, 0), api.ErrShape},
		{parts(1, 0, 0, 0, 0), api.ErrShape},
		{parts(1, 0, -1, 51), api.ErrRange},
		{parts(1, 101, -1, 0), api.ErrBreak},
		{parts(1, 0, 0, 51), api.ErrBreak},
		{parts(3, 0, 301, 0), api.ErrBreak},
		{parts(1, math.MaxInt, 0, 0), api.ErrBreak},
		{parts(200000000000, 0, 0, 10000000000001), api.ErrBreak},
	}
	for _, n := range outside(1, 200000000000) {
		l = append(l, wrongPart{parts(n, 0, 0, 0), api.ErrRange})
	}
	for cask := range 3 {
		for _, n := range numbers(-1, math.MinInt) {
			p := parts(1, 0, 0, 0)
			p.Parts[cask] = n
			l = append(l, wrongPart{p, api.ErrRange})
		}
	}
	return l
}

// A wrongWeight is weights of the casks of the examples, with their error.
type wrongWeight struct {
	w api.BlendWeights
	e api.Errno
}

// wrongWeights is weights with errors, some of them with several.
func wrongWeights() []wrongWeight {
	l := []wrongWeight{
		{weights(0, 0, kinds(), kinds()), api.ErrRange},
		{weights(1, 0, kinds(), kinds()), api.ErrShape},
		{weights(1, 0, kinds(-1), kinds(-1), -1, 0), api.ErrShape},
		{weights(1, 0, kinds(), kinds(), 0, 0, 0, 0), api.ErrShape},
	}
	add := func(change func(w *api.BlendWeights, n int), l ...int) []wrongWeight {
		var out []wrongWeight
		for _, n := range l {
			w := hopeless()
			change(&w, n)
			out = append(out, wrongWeight{w, api.ErrRange})
		}
		return out
	}
	const most = 100000000000000
	l = append(l, add(func(w *api.BlendWeights, n int) { w.Den = n }, outside(1, 200000000000)...)...)
	l = append(l, add(func(w *api.BlendWeights, n int) { w.Each = n }, outside(-most, most)...)...)
	l = append(l, add(func(w *api.BlendWeights, n int) { w.Each, w.Casks = n, nil }, outside(-most, most)...)...)
	for n := range api.BlendKinds {
		l = append(l, add(func(w *api.BlendWeights, x int) { w.High[n] = x }, outside(0, most)...)...)
		l = append(l, add(func(w *api.BlendWeights, x int) { w.Low[n] = x }, outside(0, most)...)...)
	}
	for n := range 3 {
		l = append(l, add(func(w *api.BlendWeights, x int) { w.Casks[n] = x }, outside(0, most)...)...)
	}
	return l
}

// A wrongWhole is whole casks of those of the examples, with their error.
type wrongWhole struct {
	casks []int
	e     api.Errno
}

func wrongWholes() []wrongWhole {
	return []wrongWhole{
		{nil, api.ErrEmpty},
		{numbers(-1), api.ErrMissing}, {numbers(3), api.ErrMissing}, {numbers(math.MinInt), api.ErrMissing}, {numbers(math.MaxInt), api.ErrMissing},
		{numbers(0, 1, 2, 3), api.ErrMissing}, {numbers(2, -1), api.ErrMissing}, {numbers(0, 3, 1), api.ErrMissing},
		{numbers(0, 0), api.ErrOrder}, {numbers(1, 0), api.ErrOrder}, {numbers(0, 2, 1), api.ErrOrder}, {numbers(0, 1, 1, 3), api.ErrOrder}, {numbers(2, 1, -1), api.ErrOrder},
	}
}

// An asking of casks tells whether there is nothing beside its error.
type asking func(l []api.BlendCask) (bool, api.Errno)

// allRefuse asks for the errors of casks, and for that of five right ones.
func allRefuse(t *testing.T, five api.Errno, askings map[string]asking) {
	t.Helper()
	for name, ask := range askings {
		for _, x := range wrongCasks() {
			isNothing, e := ask(x.l)
			want(t, name+": "+x.what, isNothing, e, true, x.e)
		}
		isNothing, e := ask(many(5))
		want(t, name+": five casks", isNothing, e, true, five)
	}
}

// nothing tells whether a result is nothing.
func nothing[T any](x T, e api.Errno) (bool, api.Errno) {
	return reflect.ValueOf(&x).Elem().IsZero(), e
}

// nothings is nothing for two results.
func nothings[T, U any](x T, y U, e api.Errno) (bool, api.Errno) {
	isNothing, _ := nothing(x, e)
	isToo, _ := nothing(y, e)
	return isNothing && isToo, e
}
