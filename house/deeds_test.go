package house

import (
	"fmt"
	"slices"
	"strings"
	"testing"

	"criadera/api"
)

// TestGauge: P10.2.
func TestGauge(t *testing.T) {
	log := example("ivy seal a")
	gauged := slices.Concat(entries("ann cask a 5"), times(39, "ann gauge a 0 0 0"))
	entered(t, []behind{
		{log, "ann gauge a 1095 0 100000", api.OK}, {log, "ann gauge a 1095 7 7", api.OK},
		{log, "ann gauge a 1095 450", api.ErrSyntax}, {log, "ann gauge a 1095 450 450 1", api.ErrSyntax}, {log, "ann gauge a x 450 450", api.ErrSyntax}, {log, "ann gauge a 1095 1234567890 0", api.ErrSyntax},
		{log, "ann gauge 9 1094 2 1", api.ErrName}, {log, "ann gauge b 100001 2 1", api.ErrRange}, {log, "ann gauge b 1094 0 100001", api.ErrRange}, {log, "ann gauge b 1094 2 1", api.ErrOrder},
		{log, "ann gauge b 1094 1 2", api.ErrMissing}, {log, "ann gauge b 1095 1 2", api.ErrMissing},
		{log, "ann gauge a 1094 1 2", api.ErrClash}, {log, "ann gauge a 1096 1 2", api.ErrClash},
		{gauged, "ann gauge a 0 0 0", api.OK},
		{slices.Concat(gauged, gauged[1:2]), "ann gauge a 0 0 0", api.ErrFull}, {slices.Concat(gauged, gauged[1:2]), "ann gauge a 1 0 0", api.ErrClash}, {slices.Concat(gauged, gauged[1:2]), "ann gauge b 0 0 0", api.ErrMissing},
	})
	s := stateOf(t, example("ann cask b 5", "ann gauge b 1095 1 2", "ann day 1100", "ann gauge a 1100 3 4"))
	want(t, "the gaugings", s.Gaugings, 0, []api.GaugeReading{{Cask: "a", Day: 1095, Volume: within(450, 450)}, {Cask: "b", Day: 1095, Volume: within(1, 2)}, {Cask: "a", Day: 1100, Volume: within(3, 4)}}, 0)
}

// TestSheet: P10.2.
func TestSheet(t *testing.T) {
	log := example("ann cask b 5", "ivy seal a", "tom sheet b 0")
	forty := "tom sheet a " + strings.Repeat("0,", 39) + "0"
	most := slices.Concat(log, entries(strings.Replace(forty, "0,", "", 1)))
	entered(t, []behind{
		{log, "tom sheet a 0", api.OK}, {log, "tom sheet a -", api.OK}, {log, "tom sheet b 1,1,0", api.OK}, {log, forty, api.OK}, {log, strings.Replace(forty, " a ", " b ", 1), api.ErrLarge},
		{log, "tom sheet a", api.ErrSyntax}, {log, "tom sheet a 0 1", api.ErrSyntax}, {log, "tom sheet a 0,", api.ErrSyntax}, {log, "tom sheet a 0,,1", api.ErrSyntax}, {log, "tom sheet 9 x", api.ErrSyntax}, {log, "tom sheet a 1000", api.ErrSyntax},
		{log, "tom sheet 9 0", api.ErrName}, {log, "tom sheet 9 6", api.ErrName}, {log, "tom sheet x 6", api.ErrRange}, {log, "tom sheet x -1", api.ErrRange}, {log, forty + ",0", api.ErrLarge},
		{log, "tom sheet x 0", api.ErrMissing}, {log, "tom sheet x 2", api.ErrMissing}, {log, "tom sheet a 2", api.ErrMissing}, {log, "tom sheet a 0,5", api.ErrMissing},
		{most, "tom sheet a 1", api.OK}, {most, "tom sheet a -", api.OK}, {most, "tom sheet a 0,1", api.ErrLarge}, {most, "tom sheet a 5,5", api.ErrLarge}, {most, "tom sheet x 0,1", api.ErrMissing}, {most, "tom sheet b 0,1", api.OK},
	})
	s := stateOf(t, slices.Concat(log, entries("tom sheet a -", "tom sheet b -", "tom sheet b 1,0", "tom sheet a 1", "ann cask c 5", "tom sheet c 0")))
	want(t, "the sheets", s.Sheets, 0, []api.TasteSheet{{Cask: "b", Marks: numbers(0, 1, 0)}, {Cask: "a", Marks: numbers(1)}, {Cask: "c", Marks: numbers(0)}}, 0)
}

// TestLoss: P10.2.
func TestLoss(t *testing.T) {
	log := example("ivy seal a")
	entered(t, []behind{
		{log, "cy loss a 0 1095 0 100000", api.OK}, {log, "cy loss a 1095 1095 7 7", api.OK}, {log, "cy loss a 0 0 0 0", api.OK},
		{log, "cy loss a 0 1095 7", api.ErrSyntax}, {log, "cy loss a 0 1095 7 7 7", api.ErrSyntax}, {log, "cy loss 9 0 x 7 7", api.ErrSyntax},
		{log, "cy loss 9 5 4 7 7", api.ErrName}, {log, "cy loss x 0 100001 7 6", api.ErrRange}, {log, "cy loss x 5 4 7 100001", api.ErrOrder}, {log, "cy loss x 5 6 7 100001", api.ErrRange}, {log, "cy loss x 5 1096 7 6", api.ErrOrder},
		{log, "cy loss x 0 1095 7 7", api.ErrMissing}, {log, "cy loss x 0 1096 7 7", api.ErrMissing}, {log, "cy loss a 0 1096 7 7", api.ErrOrder}, {log, "cy loss a 1096 1096 7 7", api.ErrOrder},
		{slices.Concat(log, entries("ann day 1096")), "cy loss a 1096 1096 7 7", api.OK},
	})
	s := stateOf(t, slices.Concat(log, entries("cy loss a 3 4 5 6", "cy loss a 1 2 3 4")))
	want(t, "the losses", s.Losses, 0, []api.FlorLoss{{Cask: "a", From: 3, To: 4, Volume: within(5, 6)}, {Cask: "a", From: 1, To: 2, Volume: within(3, 4)}}, 0)
}

// TestPay: P10.2 and P10.11.
func TestPay(t *testing.T) {
	paid := example("cy pay 100")
	entered(t, []behind{
		{example(), "cy pay 1", api.OK}, {example(), "cy pay 150", api.OK}, {example(), "cy pay 151", api.ErrLarge}, {example(), "cy pay 999999999", api.ErrLarge},
		{example(), "cy pay 0", api.ErrRange}, {example(), "cy pay -1", api.ErrRange}, {example(), "cy pay -150", api.ErrRange}, {nil, "cy pay 0", api.ErrRange}, {nil, "cy pay 1", api.ErrLarge},
		{paid, "cy pay 50", api.OK}, {paid, "cy pay 51", api.ErrLarge}, {slices.Concat(paid, entries("cy pay 50")), "cy pay 1", api.ErrLarge},
		{slices.Concat(paid, entries("ann draw a 1")), "cy pay 53", api.OK}, {slices.Concat(paid, entries("ivy duty 9")), "cy pay 51", api.ErrLarge},
		{example("ann day 2000", "ivy duty 0", "ann draw a 400", "ivy seal a"), "cy pay 150", api.OK},
	})
	s := stateOf(t, slices.Concat(paid, entries("cy pay 7")))
	want(t, "due and paid", numbers(s.Due, s.Paid), 0, numbers(150, 107), 0)
}

// TestMuchIsDue: P10.2: more may be due than can be paid at once.
func TestMuchIsDue(t *testing.T) {
	log := entries("ann cask a 100000", "ivy duty 1000")
	for range 12 {
		log = append(log, entries("ann fill a 0 100000", "ann draw a 100000")...)
	}
	entered(t, []behind{{log, "cy pay 999999999", api.OK}, {log, "cy pay 1000000000", api.ErrSyntax}, {slices.Concat(log, entries("cy pay 999999999")), "cy pay 200000002", api.ErrLarge}})
	s := stateOf(t, slices.Concat(log, entries("cy pay 999999999", "cy pay 200000001")))
	want(t, "due and paid", numbers(s.Due, s.Paid), 0, numbers(1200000000, 1200000000), 0)
}

// TestOldBook: P10.2 and P10.12.
func TestOldBook(t *testing.T) {
	old := entries("cy part a 10 12 5 6", "cy part b 50 60 1 2", "cy entry half -1 0 -2")
	closed := slices.Concat(old, entries("cy certify old1 mean 30 1 10 20"))
	long := slices.Clone(old)
	for n := range 7 {
		long = append(long, entryOfLine(fmt.Sprint("cy entry e", n, " 0 0 0")))
	}
	l := []behind{
		{nil, "cy part a 10 12 5 6", api.OK}, {nil, "cy part a 12 10 5 6", api.ErrOrder}, {nil, "cy part a 10 401 5 6", api.ErrRange}, {nil, "cy part 9 12 10 5 6", api.ErrName}, {nil, "cy part a 10 12 5", api.ErrSyntax}, {nil, "cy part", api.ErrSyntax}, {nil, "cy part a 10 1234567 5 6", api.ErrSyntax},
		{nil, "cy entry half -1 0 -2", api.ErrShape}, {nil, "cy entry", api.ErrSyntax}, {nil, "cy entry half x", api.ErrSyntax},
		{old[:2], "cy part c 0 0 0 0", api.OK}, {old[:2], "cy part a 0 0 0 0", api.ErrExists}, {old[:2], "cy entry half -1 0", api.ErrShape}, {old[:2], "cy entry half -1", api.ErrShape}, {old[:2], "cy entry half -21 0 0", api.ErrRange}, {old[:2], "cy entry part 5 5 5", api.OK},
		{old, "cy part c 0 0 0 0", api.ErrSyntax}, {old, "cy entry half 0 0 0", api.ErrExists}, {old, "cy entry few 0 0 2", api.OK},
		{slices.Concat(old[:2], entries("cy part c 0 0 0 0", "cy part d 0 0 0 0", "cy part e 0 0 0 0")), "cy part f 0 0 0 0", api.ErrLarge},
		{long[:9], "cy entry last 0 0 0", api.OK}, {long, "cy entry last 0 0 0", api.ErrLarge},
	}
	for _, text := range words("part c 0 0 0 0", "part x 1 2 3 4", "part x", "part", "entry few 0 0 2", "entry half", "entry") {
		l = append(l, behind{closed, "cy " + text, api.ErrState})
	}
	for _, text := range words("part  c 0 0 0 0", "part ", "part c 0 0 0 0\n", "entry few 0\n0 2", "entry  0 0 2") {
		l = append(l, behind{closed, "cy " + text, api.ErrSyntax}, behind{old, "cy " + text, api.ErrSyntax})
	}
	entered(t, l)
	want(t, "the book", stateOf(t, closed).Old, 0, stateOf(t, old).Old, 0)
	want(t, "no book", stateOf(t, nil).Old, 0, api.CertifyBook{}, 0)
}

// TestCertify: P10.2 and P10.12.
func TestCertify(t *testing.T) {
	old := entries("cy part a 10 12 5 6", "cy part b 50 60 1 2", "cy entry half -1 0 -2")
	one := slices.Concat(old, entries("cy certify old1 mean 30 1 10 20"))
	entered(t, []behind{
		{old, "cy certify old1 mean 30 1 10 20", api.OK}, {old, "cy certify old1 mean 29 1 10 20", api.OK}, {old, "cy certify old2 share 50 500 2 0 1", api.OK},
		{old, "cy certify old1 mean 31 1 10 20", api.ErrBreak}, {old, "cy certify old1 mean 30 1 11 20", api.ErrProof}, {old, "cy certify old1 mean 10 1 10", api.ErrShape}, {old, "cy certify old1 mean 30 1 10 20 0", api.ErrShape},
		{old, "cy certify old1 mean 30 1", api.ErrSyntax}, {old, "cy certify old1", api.ErrSyntax}, {old, "cy certify old1 median 30 1 10 20", api.ErrSyntax}, {old, "cy certify old1 share 30 1 10", api.ErrSyntax},
		{old, "cy certify 9 mean 1001 1 10 20", api.ErrName}, {old, "cy certify old1 share 401 1 1 10 20", api.ErrRange}, {old, "cy certify old1 mean 1001 1 10 20", api.ErrRange}, {old, "cy certify old1 mean 30 0 10 20", api.ErrRange}, {old, "cy certify old1 mean 30 1 10 0 0 0 0 0 0 0 0 0", api.ErrLarge},
		{nil, "cy certify old1 mean 0 1 0", api.ErrShape}, {nil, "cy certify old1 mean 0 0 0", api.ErrRange},
		{one, "cy certify old1 mean 30 1 10 20", api.ErrExists}, {one, "cy certify old1 mean 31 1 10", api.ErrExists}, {one, "cy certify old1 mean 30 0 10 20", api.ErrRange}, {one, "cy certify old2 mean 30 1 10 20", api.OK}, {one, "cy certify old2 mean 31 1 10 20", api.ErrBreak},
	})
	s := stateOf(t, slices.Concat(one, entries("cy certify old0 share 50 499 2 0 1")))
	want(t, "the certificates", s.Certificates, 0, []api.CertifyCertificate{
		{Name: "old1", Value: 30, Proof: api.CertifyProof{Den: 1, Level: 10, Weights: numbers(20)}},
		{Name: "old0", Ask: api.CertifyAsk{Kind: api.CertifyShare, Age: 50}, Value: 499, Proof: api.CertifyProof{Den: 2, Weights: numbers(1)}}}, 0)
}

// TestSeal: P10.2.
func TestSeal(t *testing.T) {
	log := example("ann cask b 5", "ann cask c 5", "ivy seal b")
	entered(t, []behind{
		{log, "ivy seal a", api.OK}, {log, "ivy seal b", api.ErrDouble}, {log, "ivy seal x", api.ErrMissing}, {log, "ivy seal 9", api.ErrMissing}, {log, "ivy seal abcdefghijklmnop", api.ErrMissing}, {nil, "ivy seal a", api.ErrMissing},
		{log, "ivy open b", api.OK}, {log, "ivy open a", api.ErrState}, {log, "ivy open x", api.ErrMissing}, {log, "ivy open 9", api.ErrMissing},
		{slices.Concat(log, entries("ivy open b")), "ivy open b", api.ErrState}, {slices.Concat(log, entries("ivy open b")), "ivy seal b", api.OK},
	})
	for _, x := range []struct{ lines, sealed []string }{
		{nil, words("b")}, {words("ivy seal c", "ivy seal a"), words("b", "c", "a")}, {words("ivy seal c", "ivy open b"), words("c")},
		{words("ivy seal c", "ivy seal a", "ivy open c"), words("b", "a")}, {words("ivy seal c", "ivy open b", "ivy seal b"), words("c", "b")}, {words("ivy open b"), nil},
	} {
		want(t, "the sealed casks", stateOf(t, slices.Concat(log, entries(x.lines...))).Sealed, 0, x.sealed, 0)
	}
}

// TestDuty: P10.2.
func TestDuty(t *testing.T) {
	entered(t, []behind{{nil, "ivy duty 0", api.OK}, {nil, "ivy duty 1000", api.OK}, {nil, "ivy duty 1001", api.ErrRange}, {nil, "ivy duty -1", api.ErrRange}, {example(), "ivy duty 2", api.OK}, {example(), "ivy duty 3", api.OK}})
	want(t, "no rate", stateOf(t, nil).Rate, 0, 0, 0)
	want(t, "the rate", stateOf(t, example("ivy duty 7", "ivy duty 4")).Rate, 0, 4, 0)
}
