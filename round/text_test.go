package round

import (
	"fmt"
	"slices"
	"strings"
	"testing"

	"criadera/api"
)

// TestFormatMoves: P9.7.
func TestFormatMoves(t *testing.T) {
	long := changed(func(p *api.RoundPlant) { p.Vessels[2].Name = "Butt-7-of-50" })
	for _, x := range []struct {
		p api.RoundPlant
		l []api.RoundMove
		s string
	}{
		{three(), nil, ""},
		{three(), moves(0, 1, 1, 2), "a b;b c"},
		{three(), moves(2, 0), "c a"},
		{three(), moves(0, 0, 1, 0), "a a;b a"},
		{build(nil, 1, 1, 1), moves(0, 1), "a b"},
		{long, moves(2, 1, 1, 2), "Butt-7-of-50 b;b Butt-7-of-50"},
		{three(), slices.Repeat(moves(0, 1), 501), strings.Repeat("a b;", 500) + "a b"},
	} {
		s, e := FormatMoves(x.p, x.l)
		want(t, fmt.Sprint(len(x.l), " moves"), s, e, x.s, api.OK)
		l, e := ParseMoves(x.p, x.s)
		want(t, x.s, l, e, x.l, api.OK)
	}
	for _, n := range outside(0, 2) {
		for _, l := range [][]api.RoundMove{moves(n, 0), moves(0, n), moves(n, n), moves(0, 1, 1, n, 0, 2)} {
			s, e := FormatMoves(three(), l)
			refused(t, fmt.Sprint(l), s, e, api.ErrMissing)
		}
	}
}

// TestParseMoves: P9.7.
func TestParseMoves(t *testing.T) {
	for _, s := range []string{
		";", " ", "a", "a;b", "a b;", ";a b", "a b;;b c", "a b; b c", "a b ;b c", "a  b", " a b", "a b ", "a b c", "a b;b c;a", "a b;b", "x y;a", "a b; ", "a ", " b", "a b;c", "a,b", "a\tb", "a\nb", "a b,b c",
	} {
		l, e := ParseMoves(three(), s)
		refused(t, fmt.Sprintf("%q", s), l, e, api.ErrSyntax)
	}
	for _, s := range []string{
		"a x", "x a", "A b", "a b;b d", "a B", "a b\n", "\na b", "a 1", "0 1", "a\x00 b", "é b", "a b,b", "a\tb c", "abcdefghijklm b", "a b;b c;c d",
	} {
		l, e := ParseMoves(three(), s)
		refused(t, fmt.Sprintf("%q", s), l, e, api.ErrMissing)
	}
	l, e := ParseMoves(three(), strings.Repeat("b b;", 100000)+"b c")
	want(t, "a long text", len(l), e, 100001, api.OK)
}
