package blend

import (
	"criadera/api"
	"criadera/checks"
)

// CheckSample returns the first error of a sample.
func CheckSample(s api.BlendSample) api.Errno {
	_, e := checks.Each(api.BlendKinds, func(kind int) api.Errno { return checks.Range(s.Values[kind], api.MaxBlendValue) })
	return checks.First(checks.Number(s.Volume, 1, api.MaxBlendVolume), e)
}

// Widened returns a sample with so much more at both ends of all ranges.
func Widened(s api.BlendSample, by int) (api.BlendSample, api.Errno) {
	if e := checks.First(CheckSample(s), checks.Number(by, 0, api.MaxBlendValue)); e != api.OK {
		return api.BlendSample{}, e
	}
	for kind, r := range s.Values {
		s.Values[kind] = api.Range{Lo: max(0, r.Lo-by), Hi: min(r.Hi+by, api.MaxBlendValue)}
	}
	return s, api.OK
}

// A task is a checked sample, and the checked casks that are to meet it.
type task struct {
	api.BlendSample
	cellar
}

// taskOf is the task of so many casks at most.
func taskOf(l []api.BlendCask, s api.BlendSample, most int) (task, api.Errno) {
	if e := checks.First(casksError(l, most), CheckSample(s)); e != api.OK {
		return task{}, e
	}
	return task{s, l}, api.OK
}
