package round

import (
	"fmt"
	"testing"

	"criadera/api"
)

// named is two with a vessel that is named more.
func named() api.RoundPlant {
	p := two()
	p.Vessels[1].Name = "more"
	return p
}

// TestWithVessel: P9.6.
func TestWithVessel(t *testing.T) {
	for _, size := range numbers(1, 7, 50) {
		p, task, e := WithVessel(two(), api.RoundTask{Start: filled(6, 0), Content: numbers(-1, 3), Wine: numbers(0, 1)}, size)
		q := full(6, 4, size)
		q.Vessels[2].Name, q.Hoses = "more", pairs(0, 1, 1, 0, 2, 0, 0, 2, 2, 1, 1, 2)
		want(t, "the plant", p, e, q, api.OK)
		want(t, "the task", task, e, api.RoundTask{Start: filled(6, 0, 0), Content: numbers(-1, 3, -1), Wine: numbers(0, 1, 0)}, api.OK)
		want(t, "the task", 0, CheckTask(p, task), 0, api.OK)
	}
	wide := wish(filled(1, 2, 3, 4, 5), 0, 0, 0, 0, 0)
	p, task, e := WithVessel(five(), wide, 6)
	want(t, "the last vessel", len(p.Hoses), e, 30, api.OK)
	want(t, "the last vessel", 0, CheckTask(p, task), 0, api.OK)
	p, _, e = WithVessel(build(nil, 3), wish(filled(2), 1), 6)
	want(t, "without hoses", p.Hoses, e, pairs(1, 0, 0, 1), api.OK)
	six := wish(filled(1, 2, 3, 4, 5, 6), 0, 0, 0, 0, 0, 0)
	bare := most()
	bare.Hoses, bare.Vessels[3].Name = nil, "more"
	for _, x := range []struct {
		what string
		p    api.RoundPlant
		t    api.RoundTask
		size int
		e    api.Errno
	}{
		{"too many vessels", most(), six, 1, api.ErrFull},
		{"too many vessels, without hoses", bare, six, 1, api.ErrFull},
		{"too many vessels, and a wrong size", bare, six, 51, api.ErrRange},
		{"the name is there", named(), odd(), 1, api.ErrExists},
		{"the name is there, and a wrong size", named(), odd(), 0, api.ErrRange},
	} {
		p, task, e := WithVessel(x.p, x.t, x.size)
		refused(t, x.what, p, e, x.e)
		refused(t, x.what, task, e, x.e)
	}
	for _, size := range outside(1, 50) {
		p, task, e := WithVessel(two(), odd(), size)
		refused(t, fmt.Sprint("the size ", size), p, e, api.ErrRange)
		refused(t, fmt.Sprint("the size ", size), task, e, api.ErrRange)
	}
}

// TestWouldDo: P9.6.
func TestWouldDo(t *testing.T) {
	stuck := wish(filled(3, 3), -1, 1)
	wide, s := over()
	grown, late := full(37, 10, 18, 39), build(pairs(1, 0, 1, 2, 3, 2), 35, 4, 6, 16)
	ofGrown, ofLate := wish(filled(25, 0, 0, 0), -1, 4, 16, -1), wish(filled(33, 3, 0, 10), 2, -1, -1, -1)
	early := full(34, 7, 3, 10)
	six := filled(1, 0, 3, 4, 5, 6)
	for _, x := range []struct {
		what string
		p    api.RoundPlant
		t    api.RoundTask
		most int
		size int
		e    api.Errno
	}{
		{"the chapter's third example", two(), odd(), 3, 1, api.OK},
		{"no other size", two(), odd(), 1, 1, api.OK},
		{"the greatest one", two(), odd(), 50, 1, api.OK},
		{"there is a way without", three(), half(), 1, 0, api.OK},
		{"what is so", two(), wish(filled(6, 0), 6, 0), 50, 0, api.OK},
		{"the second size", build(pairs(0, 1), 3, 3), stuck, 50, 2, api.OK},
		{"the second size, just", build(pairs(0, 1), 3, 3), stuck, 2, 2, api.OK},
		{"too small", build(pairs(0, 1), 3, 3), stuck, 1, 0, api.ErrNone},
		{"a late one", build(nil, 6, 33), wish(filled(4, 31), -1, 8), 50, 21, api.OK},
		{"not so late", build(nil, 6, 33), wish(filled(4, 31), -1, 8), 20, 0, api.ErrNone},
		{"none", two(), wish(filled(6, 0), 6, 1), 50, 0, api.ErrNone},
		{"too many states with the first size, but not with the second one", grown, ofGrown, 50, 0, api.ErrLarge},
		{"too many states with a later size", late, ofLate, 50, 0, api.ErrLarge},
		{"just too many", late, ofLate, 11, 0, api.ErrLarge},
		{"not too many", late, ofLate, 10, 0, api.ErrNone},
		{"too many states with a size that is not looked at", early, wish(filled(28, 4, 0, 0), 21, 1, -1, 6), 50, 1, api.OK},
		{"too many states without", wide, wish(s, -1, -1, -1, -1, -1), 1, 0, api.ErrLarge},
		{"a way without, and no room", most(), wish(six, 1, -1, -1, -1, -1, -1), 50, 0, api.OK},
		{"no way, and no room", most(), wish(six, 1, 2, 3, 4, 5, 6), 50, 0, api.ErrFull},
		{"no way, and the name is there", named(), odd(), 50, 0, api.ErrExists},
		{"a way without, and the name is there", named(), wish(filled(6, 0), 2, 4), 50, 0, api.OK},
	} {
		n, e := WouldDo(x.p, x.t, x.most)
		want(t, x.what, n, e, x.size, x.e)
	}
	p, start := just()
	n, e := WouldDo(p, wish(start, -1, -1, -1, -1, -1), 50)
	want(t, "as many states as may be", n, e, 0, api.OK)
	wide.Vessels[0].Name = "more"
	n, e = WouldDo(wide, wish(s, 15, 8, 20, 8, 4), 1)
	refused(t, "too many states, and the name is there", n, e, api.ErrLarge)
	n, e = WouldDo(wide, wish(s, -1, -1, -1, -1, -1), 0)
	refused(t, "too many states, and no size", n, e, api.ErrRange)
	for _, most := range outside(1, 50) {
		for _, task := range []api.RoundTask{odd(), wish(filled(6, 0), 6, 0)} {
			n, e := WouldDo(two(), task, most)
			refused(t, fmt.Sprint("up to ", most), n, e, api.ErrRange)
		}
	}
}
