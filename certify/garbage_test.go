package certify

import (
	"math"
	"math/rand"
	"testing"

	"criadera/api"
)

// wild is a number that is seldom right.
func wild(r *rand.Rand) int {
	numbers := []int{0, 1, -1, 2, 20, 21, -20, 400, 401, 1000, 1001, api.MaxCertifyDen, api.MaxCertifyDen + 1, -api.MaxCertifyDen, math.MinInt, math.MaxInt}
	return numbers[r.Intn(len(numbers))]
}

func wildList(r *rand.Rand, most int) []int {
	var l []int
	for range r.Intn(most + 1) {
		l = append(l, wild(r))
	}
	return l
}

// wildBook is a random book, mostly right, of which some part is wild.
func wildBook(r *rand.Rand) api.CertifyBook {
	b := someBook(r, 5, 3)
	switch r.Intn(6) {
	case 0:
		b.Parts = b.Parts[:r.Intn(len(b.Parts))]
	case 1:
		b.Parts[0].Age = from(wild(r), wild(r))
	case 2:
		b.Entries = append(b.Entries, api.CertifyEntry{Name: "wild", Coefs: wildList(r, 6), Most: wild(r)})
	}
	return b
}

// TestGarbage: R1 and R2: whatever the arguments are, each function ends, and beside an error there is nothing.
func TestGarbage(t *testing.T) {
	r := rand.New(rand.NewSource(11))
	right, wrong := 0, 0
	seen := func(e api.Errno, isNothing bool) {
		t.Helper()
		if e == api.OK {
			right++
			return
		}
		wrong++
		if !isNothing {
			t.Errorf("something beside the error %d", e)
		}
	}
	for range 20000 {
		b, a := wildBook(r), api.CertifyAsk{Kind: r.Intn(3), Age: wild(r)}
		m := api.CertifyMix{Den: wild(r), Parts: wildList(r, 5)}
		p := api.CertifyProof{Den: wild(r), Level: wild(r), Weights: wildList(r, 4)}
		c := api.CertifyCertificate{Name: "old", Ask: a, Value: wild(r), Proof: p}
		measured, n := from(wild(r), wild(r)), wild(r)
		number, e := CheckMix(b, m)
		seen(e, number == 0 || e == api.ErrBreak)
		value, e := ValueOf(b, a, m)
		seen(e, value == [2]int{})
		value, e = CheckProof(b, a, p)
		seen(e, value == [2]int{})
		answer, e := Least(b, a)
		seen(e, answer.Value == [2]int{} && answer.Mix.Den == 0 && answer.Mix.Parts == nil && answer.Proof.Den == 0 && answer.Proof.Weights == nil)
		share, e := ShareOf(b, n)
		seen(e, share == api.Range{})
		l, e := CheckClash(b, p)
		seen(e, len(l) == 0)
		l, e = LeastGround(b, a, n)
		seen(e, len(l) == 0)
		with, e := WithCarbon(b, measured)
		seen(e, len(with.Parts)+len(with.Entries) == 0)
		agrees, e := Agrees(b, measured)
		seen(e, agrees == 0)
		only, e := Only(b, wildList(r, 3))
		seen(e, len(only.Parts)+len(only.Entries) == 0)
		joined, e := Joined(b, wildBook(r))
		seen(e, len(joined.Parts)+len(joined.Entries) == 0)
		issued, e := Issue(b, a, "old")
		seen(e, issued.Name == "" && issued.Value == 0 && issued.Ask == api.CertifyAsk{} && issued.Proof.Den == 0)
		l, e = HangsOn(b, c)
		seen(e, len(l) == 0)
		read, e := ParseCertificate(FormatCertificate(c))
		seen(e, read.Name == "" && read.Value == 0 && read.Ask == api.CertifyAsk{} && read.Proof.Den == 0)
	}
	if right < 10000 || wrong < 10000 {
		t.Errorf("%d calls were right, %d were not", right, wrong)
	}
}
