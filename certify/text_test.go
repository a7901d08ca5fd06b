package certify

import (
	"fmt"
	"math"
	"strings"
	"testing"

	"criadera/api"
)

// TestFormatCertificate: P5.8.
func TestFormatCertificate(t *testing.T) {
	for _, x := range []struct {
		c    api.CertifyCertificate
		text string
	}{
		{certificate(), "old1 mean 30 1 10 20"},
		{api.CertifyCertificate{Name: "old2", Ask: share(50), Value: 500, Proof: proof(2, 0, 1)}, "old2 share 50 500 2 0 1"},
		{api.CertifyCertificate{Name: "a", Ask: api.CertifyAsk{Age: 7}, Value: 1, Proof: proof(2, -3)}, "a mean 1 2 -3"},
		{api.CertifyCertificate{Name: "a", Ask: share(0), Proof: proof(1000000000000, -1000000000000, 0, 1000000000000, 5)}, "a share 0 0 1000000000000 -1000000000000 0 1000000000000 5"},
		{api.CertifyCertificate{}, " mean 0 0 0"},
		{api.CertifyCertificate{Name: "a b", Ask: share(-1), Value: math.MinInt, Proof: proof(math.MaxInt, 0, -1)}, "a b share -1 -9223372036854775808 9223372036854775807 0 -1"},
		{api.CertifyCertificate{Name: "a", Ask: api.CertifyAsk{Kind: -1}}, ""},
		{api.CertifyCertificate{Name: "a", Ask: api.CertifyAsk{Kind: 2}}, ""},
		{api.CertifyCertificate{Name: "a", Ask: api.CertifyAsk{Kind: math.MinInt}}, ""},
		{api.CertifyCertificate{Name: "a", Ask: api.CertifyAsk{Kind: math.MaxInt}}, ""},
	} {
		want(t, fmt.Sprint(x.c), FormatCertificate(x.c), 0, x.text, 0)
	}
}

// TestParseCertificate: P5.8.
func TestParseCertificate(t *testing.T) {
	for _, text := range []string{
		"old1 mean 30 1 10 20",
		"old2 share 50 500 2 0 1",
		"a mean 0 1 0",
		"a share 0 0 1 0",
		"mean mean 1 1 1",
		"share share 1 1 1 1",
		"a share 400 1000 1000000000000 -1000000000000 0 1000000000000",
		"a mean 30 1 1000000000000 1 2 3 4 5 6 7 8",
	} {
		c, e := ParseCertificate(text)
		want(t, text, FormatCertificate(c), e, text, api.OK)
	}
	c, e := ParseCertificate("old2 share 50 500 2 0 1")
	want(t, "the chapter's share", c, e, api.CertifyCertificate{Name: "old2", Ask: share(50), Value: 500, Proof: proof(2, 0, 1)}, api.OK)
	for text, e := range map[string]api.Errno{
		"":                                        api.ErrSyntax,
		" ":                                       api.ErrSyntax,
		"old1":                                    api.ErrSyntax,
		"mean 30 1 10 20":                         api.ErrSyntax,
		"old1 mean":                               api.ErrSyntax,
		"old1 mean 30":                            api.ErrSyntax,
		"old1 mean 30 1":                          api.ErrSyntax,
		"old1 share 50 500 2":                     api.ErrSyntax,
		"old1 Mean 30 1 10 20":                    api.ErrSyntax,
		"old1 50 mean 30 1 10 20":                 api.ErrSyntax,
		"old1  mean 30 1 10 20":                   api.ErrSyntax,
		"old1 mean  30 1 10 20":                   api.ErrSyntax,
		" old1 mean 30 1 10 20":                   api.ErrSyntax,
		"old1 mean 30 1 10 20 ":                   api.ErrSyntax,
		"old1 mean 30 1 10 ":                      api.ErrSyntax,
		"old1 mean 30 1 10 20\n":                  api.ErrSyntax,
		"old1 mean 30 1 10 20 x":                  api.ErrSyntax,
		"old1 mean 30\t1 10 20":                   api.ErrSyntax,
		"old1 mean 030 1 10 20":                   api.ErrSyntax,
		"old1 mean +30 1 10 20":                   api.ErrSyntax,
		"old1 mean -0 1 10 20":                    api.ErrSyntax,
		"old1 mean - 1 10 20":                     api.ErrSyntax,
		"old1 mean 3.5 1 10 20":                   api.ErrSyntax,
		"9 mean 1001 0 10 10000000000000":         api.ErrSyntax,
		"9 mean 1001 0 -10000000000000 20":        api.ErrSyntax,
		"9 share 10000000000000 500 2 0 1":        api.ErrSyntax,
		"9 share 401 500 2 0 1 2 3 4 5 6 7 8 -":   api.ErrSyntax,
		" mean 30 1 10 20":                        api.ErrName,
		"9 mean 1001 0 10 20":                     api.ErrName,
		"abcdefghijklm share 401 500 2 0 1":       api.ErrName,
		"old\n mean 30 1 10 20":                   api.ErrName,
		"ol\t1 mean 30 1 10 20":                   api.ErrName,
		"öld mean 30 1 10 20":                     api.ErrName,
		"a share 401 500 2 0 1":                   api.ErrRange,
		"a share -1 500 2 0 1":                    api.ErrRange,
		"a mean 1001 1 10 20":                     api.ErrRange,
		"a mean -1 1 10 20":                       api.ErrRange,
		"a mean 30 0 10 20":                       api.ErrRange,
		"a mean 30 -1 10 20":                      api.ErrRange,
		"a mean 30 1000000000001 10 20":           api.ErrRange,
		"a mean 30 1 1000000000001 20":            api.ErrRange,
		"a mean 30 1 -1000000000001 20":           api.ErrRange,
		"a mean 30 1 10 -1":                       api.ErrRange,
		"a mean 30 1 10 1000000000001":            api.ErrRange,
		"a mean 30 1 10 1 2 3 4 5 6 7 8 -9":       api.ErrRange,
		"a mean 30 1 10 1 2 3 4 5 6 7 8 9":        api.ErrLarge,
		"a share 400 1000 1 10 0 0 0 0 0 0 0 0 0": api.ErrLarge,
	} {
		c, f := ParseCertificate(text)
		refused(t, fmt.Sprintf("%q", text), c, f, e)
	}
}

const oldText = "part a 10 12 5 6\npart b 50 60 1 2\nentry half -1 0 -2\n"

// TestPrint: P5.8.
func TestPrint(t *testing.T) {
	for _, x := range []struct {
		b    api.CertifyBook
		text string
	}{
		{old(), oldText},
		{clashing(), oldText + "entry few 0 0 2\n"},
		{alone(), "part a 10 12 5 6\n"},
		{api.CertifyBook{Parts: partsOf(5)}, "part p0 0 0 0 0\npart p1 1 1 1 1\npart p2 2 2 2 2\npart p3 3 3 3 3\npart p4 4 4 4 4\n"},
	} {
		text, e := Print(x.b)
		want(t, "a text", text, e, x.text, api.OK)
	}
	for e, wrong := range wrongBooks() {
		text, f := Print(wrong)
		refused(t, "a wrong book", text, f, e)
	}
}

// TestParse: P5.8.
func TestParse(t *testing.T) {
	for _, b := range []api.CertifyBook{old(), clashing(), alone(), oldWith(), {Parts: partsOf(5)}, oldWith(entriesOf(8)...)} {
		text, _ := Print(b)
		got, n, e := Parse(text)
		want(t, text, got, e, b, api.OK)
		want(t, text, n, 0, 0, 0)
	}
	for _, x := range []struct {
		text string
		n    int
		e    api.Errno
	}{
		{"", 0, api.ErrShape},
		{"entry half -1\n", 0, api.ErrShape},
		{"part a 10 12 5 6", 1, api.ErrSyntax},
		{"part a 10 12 5 6\nentry half -1 0", 2, api.ErrSyntax},
		{"part a 10 12 5 6\nentry half\n", 2, api.ErrSyntax},
		{"\n", 1, api.ErrSyntax},
		{"part a 10 12 5 6\n\n", 2, api.ErrSyntax},
		{"part a 10 12 5 6\n\npart b\n", 2, api.ErrSyntax},
		{"part a 10 12 5 6\n ", 2, api.ErrSyntax},
		{"part a 10 12 5 6\r\n", 1, api.ErrSyntax},
		{"part a 10 12 5\n", 1, api.ErrSyntax},
		{"part a 10 12 5 6 7\n", 1, api.ErrSyntax},
		{"part a 10 12 5 6 \n", 1, api.ErrSyntax},
		{" part a 10 12 5 6\n", 1, api.ErrSyntax},
		{"Part a 10 12 5 6\n", 1, api.ErrSyntax},
		{"parts a 10 12 5 6\n", 1, api.ErrSyntax},
		{"a 10 12 5 6\n", 1, api.ErrSyntax},
		{"part 10 12 5 6\n", 1, api.ErrSyntax},
		{"part a 10  12 5 6\n", 1, api.ErrSyntax},
		{"part  a 10 12 5 6\n", 1, api.ErrSyntax},
		{"part a 10 012 5 6\n", 1, api.ErrSyntax},
		{"part a 10 +12 5 6\n", 1, api.ErrSyntax},
		{"part a 10 12 5 -0\n", 1, api.ErrSyntax},
		{"part a 10 1000000 5 6\n", 1, api.ErrSyntax},
		{"part a 10 12 5 6\npart b 50 60 1 x\nentry\n", 2, api.ErrSyntax},
		{"part a 10 12 5 6\nentry half -1 0\npart b 50 60 1 2\n", 3, api.ErrSyntax},
		{"entry half -1 0\npart b 50 60 1 2\n", 2, api.ErrSyntax},
		{"part a 10 12 5 6\nentry half x\n", 2, api.ErrSyntax},
		{"part a 10 12 5 6\nentry half -1 0 \n", 2, api.ErrSyntax},
		{"part a 10 12 5 6\nentry half -1 0 1000000\n", 2, api.ErrSyntax},
		{"part a 10 12 5 6\nentry half -1000000 0\n", 2, api.ErrSyntax},
		{"part a 10 12 5 6\nentries half -1 0\n", 2, api.ErrSyntax},
		{"part a 999999 12 5 6\n", 0, api.ErrRange},
		{"part a -999999 12 5 6\n", 0, api.ErrRange},
		{"part a 12 10 5 6\n", 0, api.ErrOrder},
		{"part  10 12 5 6\n", 0, api.ErrName},
		{"part 9\t 10 12 5 6\n", 0, api.ErrName},
		{"part a 10 12 5 6\nentry  -1 0\n", 0, api.ErrName},
		{"part a 10 12 5 6\npart a 50 60 1 2\n", 0, api.ErrExists},
		{"part a 10 12 5 6\nentry half -1\n", 0, api.ErrShape},
		{"part a 10 12 5 6\nentry half -1 1 2 3 4 5 6 7 8 9 10\n", 0, api.ErrShape},
		{"part a 10 12 5 6\nentry half -21 0\n", 0, api.ErrRange},
		{"part a 10 12 5 6\nentry half -1 0\nentry half -1 0\n", 0, api.ErrExists},
		{strings.Repeat("part a 10 12 5 6\n", 6), 0, api.ErrLarge},
		{strings.Repeat("\n", api.MaxText), 1, api.ErrSyntax},
		{strings.Repeat("\n", api.MaxText+1), 0, api.ErrLarge},
		{oldText + "entry few 0 0 2" + strings.Repeat(" 0", 29965) + "\n", 0, api.ErrShape},
		{oldText + "entry few 0 0 2" + strings.Repeat(" 0", 30000) + "\n", 0, api.ErrLarge},
	} {
		b, n, e := Parse(x.text)
		refused(t, fmt.Sprintf("%.60q", x.text), b, e, x.e)
		want(t, fmt.Sprintf("%.60q", x.text), n, 0, x.n, 0)
	}
}
