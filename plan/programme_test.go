package plan

import (
	"fmt"
	"math"
	"testing"

	"criadera/api"
)

// TestCheckProgram: P6.1.
func TestCheckProgram(t *testing.T) {
	right := map[string]api.PlanProgram{
		"the chapter's first example":  one(),
		"one without allowed points":   none(),
		"the chapter's second example": two(),
		"no demands":                   programOf(numbers(0), numbers(0)),
		"four draws":                   programOf(make([]int, 4), make([]int, 4)),
		"eight demands":                programOf(numbers(1), numbers(1), demandsOf(8)...),
		"the greatest numbers":         programOf(numbers(1000000), numbers(100), demand("x", 1000000, 100)),
		"the least numbers":            programOf(numbers(0), numbers(-100), demand("x", -1000000, -100)),
		"names that are almost alike":  one(demand("A", 0, 0), demand("a-", 0, 0), demand("a1", 0, 0)),
	}
	for what, p := range right {
		n, e := CheckProgram(p)
		want(t, what, n, e, 0, api.OK)
	}
	for _, x := range []struct {
		what string
		p    api.PlanProgram
		n    int
		e    api.Errno
	}{
		{"nothing", api.PlanProgram{}, 0, api.ErrShape},
		{"no draws, but demands", programOf(nil, nil, demand("", 0)), 0, api.ErrShape},
		{"no draws, but a gain", programOf(nil, numbers(1)), 0, api.ErrShape},
		{"no gain", programOf(numbers(1), nil), 0, api.ErrShape},
		{"a gain too much", programOf(numbers(1), numbers(1, 1)), 0, api.ErrShape},
		{"five draws and four gains", programOf(make([]int, 5), make([]int, 4)), 0, api.ErrShape},
		{"five draws", programOf(numbers(-1, 0, 0, 0, 0), make([]int, 5)), 0, api.ErrLarge},
		{"a wrong Most and nine demands", programOf(numbers(-1), numbers(1), demandsOf(9)...), 0, api.ErrRange},
		{"a wrong Gain and nine demands", programOf(numbers(1), numbers(101), demandsOf(9)...), 0, api.ErrRange},
		{"nine demands", programOf(numbers(1), numbers(1), append(demandsOf(8), demand("", 0))...), 0, api.ErrLarge},
		{"nine demands, the first one wrong", programOf(numbers(1), numbers(1), append([]api.PlanDemand{demand("", 0)}, demandsOf(8)...)...), 0, api.ErrLarge},
		{"a name and more", one(demand("b", 0, 0), demand("", 1000001)), 2, api.ErrName},
		{"a name that is there", one(demand("b", 0, 0), demand("a", 1000001)), 2, api.ErrExists},
		{"no coefficients", one(demand("b", 1000001)), 1, api.ErrShape},
		{"a coefficient too much", one(demand("b", 0, 101, 0)), 1, api.ErrShape},
		{"the second coefficient", two(demand("b", 0, 1, 101)), 1, api.ErrRange},
		{"the first wrong demand", one(demand("b", 0, 101), demand("a", 0, 0)), 1, api.ErrRange},
		{"the first demand", programOf(numbers(1), numbers(1), demand("a", 0), demand("a", 0, 0)), 0, api.ErrShape},
	} {
		n, e := CheckProgram(x.p)
		want(t, x.what, n, e, x.n, x.e)
	}
	for _, name := range wrongNames() {
		n, e := CheckProgram(one(demand(name, 0, 0)))
		want(t, name, n, e, 1, api.ErrName)
	}
}

// TestCheckProgramNumbers: P6.1, all numbers of a programme.
func TestCheckProgramNumbers(t *testing.T) {
	for _, n := range outside(0, 1000000) {
		number, e := CheckProgram(programOf(numbers(5, n), numbers(1, 1)))
		want(t, fmt.Sprint("Most ", n), number, e, 0, api.ErrRange)
	}
	for _, n := range outside(-100, 100) {
		number, e := CheckProgram(programOf(numbers(5, 5), numbers(1, n)))
		want(t, fmt.Sprint("Gain ", n), number, e, 0, api.ErrRange)
		number, e = CheckProgram(one(demand("b", 0, n)))
		want(t, fmt.Sprint("a coefficient ", n), number, e, 1, api.ErrRange)
	}
	for _, n := range outside(-1000000, 1000000) {
		number, e := CheckProgram(one(demand("b", n, 0)))
		want(t, fmt.Sprint("Amount ", n), number, e, 1, api.ErrRange)
	}
}

// TestWithout: P6.1.
func TestWithout(t *testing.T) {
	a, b, c := demand("a", 100, 3), demand("b", -40, -1), demand("c", 0, 0)
	for n, left := range [][]api.PlanDemand{{b, c}, {a, c}, {a, b}} {
		p, e := Without(one(b, c), n)
		want(t, fmt.Sprint("without ", n), p, e, programOf(numbers(100), numbers(2), left...), api.OK)
	}
	p, e := Without(one(), 0)
	want(t, "without the only one", p, e, programOf(numbers(100), numbers(2)), api.OK)
	for _, n := range numbers(-1, 1, math.MinInt, math.MaxInt) {
		p, e := Without(one(), n)
		refused(t, fmt.Sprint("without ", n), p, e, api.ErrMissing)
	}
	p, e = Without(programOf(numbers(1), numbers(1)), 0)
	refused(t, "no demands", p, e, api.ErrMissing)
	for e, wrong := range wrongPrograms() {
		p, f := Without(wrong, -1)
		refused(t, "a wrong programme", p, f, e)
	}
}

// TestWithoutStays: R3: the programme shares no memory with what was told.
func TestWithoutStays(t *testing.T) {
	p := two(demand("b", 5, 1, 0), demand("c", 6, 0, 1))
	kept := copied(p)
	out, _ := Without(p, 1)
	out.Most[0], out.Gain[0], out.Demands[0].Coefs[0], out.Demands[1].Coefs[0] = 7, 7, 7, 7
	out.Demands[1].Name = "changed"
	_ = append(out.Demands[0].Coefs, 7)
	want(t, "the programme", p, 0, kept, 0)
	want(t, "another demand", out.Demands[1].Coefs, 0, numbers(7, 1), 0)
}
