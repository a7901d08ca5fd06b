package plan

import (
	"strings"

	"criadera/api"
	"criadera/texts"
)

// mostDigits is the most digits of numbers in texts.
const mostDigits = 9

// FormatSystem returns the text of a system, whatever it is.
func FormatSystem(s api.PlanSystem) string {
	l := []string{texts.Line(nil, s.New)}
	for _, x := range s.Scales {
		l = append(l, texts.Line(nil, x.Volume, x.Loss.Lo, x.Loss.Hi, x.Least))
	}
	return strings.Join(l, ";")
}

// ParseSystem returns the system with a text.
func ParseSystem(t string) (api.PlanSystem, api.Errno) {
	s, ok := readSystem(strings.Split(t, ";"))
	if !ok {
		return api.PlanSystem{}, api.ErrSyntax
	}
	if _, e := CheckSystem(s); e != api.OK {
		return api.PlanSystem{}, e
	}
	return s, api.OK
}

// readSystem reads what stands between the semicolons of a text, and tells whether it is the text of a system.
func readSystem(l []string) (api.PlanSystem, bool) {
	begin, ok := texts.Signed(l[0], mostDigits)
	if !ok {
		return api.PlanSystem{}, false
	}
	s := api.PlanSystem{New: begin}
	for _, words := range l[1:] {
		n, ok := texts.Numbers(strings.Split(words, " "), 4, mostDigits)
		if !ok {
			return api.PlanSystem{}, false
		}
		s.Scales = append(s.Scales, api.PlanScale{Volume: n[0], Loss: api.Range{Lo: n[1], Hi: n[2]}, Least: n[3]})
	}
	return s, true
}
