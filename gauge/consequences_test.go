package gauge

import (
	"fmt"
	"math"
	"math/rand"
	"slices"
	"testing"

	"criadera/api"
)

// TestAreasPlainly compares AreaTo with the definition and with true areas (P4.1), and asks for P4.7.
func TestAreasPlainly(t *testing.T) {
	radii := []int{10, 11, 12, 13, 20, 25, 50, 97, 128, 800}
	for _, radius := range radii {
		var last api.Range
		for level := -radius; level <= radius; level += max(1, radius/100) {
			area, e := AreaTo(radius, level)
			want(t, fmt.Sprint(radius, " up to ", level), area, e, plainArea(radius, level), api.OK)
			if x := trueArea(float64(radius), float64(level)); float64(area.Lo) > x+1e-6 || float64(area.Hi) < x-1e-6 {
				t.Errorf("%d up to %d: %v without %v", radius, level, area, x)
			}
			if area.Lo < last.Lo || area.Hi < last.Hi {
				t.Errorf("%d up to %d: %v behind %v", radius, level, area, last)
			}
			last = area
		}
	}
}

// TestVolumesPlainly compares VolumeTo with the definition, and with true casks (P4.2), and asks for P4.7.
func TestVolumesPlainly(t *testing.T) {
	r := rand.New(rand.NewSource(1))
	for range 60 {
		c := someCask(r, 10+r.Intn(191))
		var last api.Range
		for dip := 0; dip <= 2*c.Bung; dip += 1 + r.Intn(1+c.Bung/10) {
			volume, e := VolumeTo(c, dip)
			want(t, fmt.Sprint(c, " up to ", dip), volume, e, plainVolume(c, dip), api.OK)
			if x := trueVolume(r, c, dip); float64(volume.Lo) > x+1e-6 || float64(volume.Hi) < x-1e-6 {
				t.Errorf("%v up to %d: %v without %v", c, dip, volume, x)
			}
			if volume.Lo < last.Lo || volume.Hi < last.Hi {
				t.Errorf("%v up to %d: %v behind %v", c, dip, volume, last)
			}
			last = volume
		}
		whole, e := VolumeOf(c)
		want(t, "the whole", whole, e, plainVolume(c, 2*c.Bung), api.OK)
	}
}

// TestGreatestCaskPlainly: P4.2: the widths of the greatest radius, too.
func TestGreatestCaskPlainly(t *testing.T) {
	c := cylinder(api.MaxGaugeRadius, api.MaxGaugeLength)
	for _, dip := range []int{1, 2, 799, 800, 801, 1599, 1600} {
		volume, e := VolumeTo(c, dip)
		want(t, fmt.Sprint("up to ", dip), volume, e, plainVolume(c, dip), api.OK)
	}
}

// TestWiderCurves: P4.7.
func TestWiderCurves(t *testing.T) {
	r := rand.New(rand.NewSource(2))
	wider := 0
	for range 300 {
		c := someCask(r, 10+r.Intn(191))
		wide := c
		wide.Stations = slices.Clone(c.Stations)
		for n := range wide.Stations {
			s := &wide.Stations[n]
			s.Inner -= r.Intn(s.Inner - 9)
			s.Outer += r.Intn(c.Bung - s.Outer + 1)
		}
		dip := r.Intn(2*c.Bung + 1)
		a, e := VolumeTo(c, dip)
		b, f := VolumeTo(wide, dip)
		want(t, "no error", e, 0, api.OK, f)
		if b.Lo > a.Lo || b.Hi < a.Hi {
			t.Errorf("%v of %v, %v of %v", a, c, b, wide)
		}
		if a != b {
			wider++
		}
	}
	if wider < 100 {
		t.Errorf("only %d volumes are wider", wider)
	}
}

// TestDippedBack: P4.2 and P4.8.
func TestDippedBack(t *testing.T) {
	r := rand.New(rand.NewSource(3))
	for range 20 {
		c := someCask(r, 10+r.Intn(91))
		var volumes []api.Range
		for dip := range 2*c.Bung + 1 {
			volume, _ := VolumeTo(c, dip)
			volumes = append(volumes, volume)
		}
		for volume := range volumes[2*c.Bung].Hi + 2 {
			plain, found := from(0, 0), false
			for dip, v := range volumes {
				if v.Lo > volume || v.Hi < volume {
					continue
				}
				if !found {
					plain.Lo = dip
				}
				plain.Hi, found = dip, true
			}
			dips, e := DipOf(c, volume)
			if !found {
				refused(t, fmt.Sprint("no dip of ", c, volume), dips, e, api.ErrNone)
				continue
			}
			want(t, fmt.Sprint("the dips of ", c, volume), dips, e, plain, api.OK)
			for dip, v := range volumes {
				if v.Lo <= volume && volume <= v.Hi && (dip < dips.Lo || dip > dips.Hi) {
					t.Errorf("%d is not among the dips %v of %d", dip, dips, volume)
				}
			}
		}
	}
}

// TestHalfCylinders: P4.8.
func TestHalfCylinders(t *testing.T) {
	r := rand.New(rand.NewSource(4))
	for range 100 {
		c := cylinder(10+r.Intn(791), 1+r.Intn(3000))
		half, e := VolumeTo(c, c.Bung)
		whole, f := VolumeOf(c)
		want(t, "no error", e, 0, api.OK, f)
		if 2*half.Lo > whole.Lo || 2*half.Hi < whole.Hi {
			t.Errorf("%v is not half of %v", half, whole)
		}
		if x := float64(c.Stations[1].At) * math.Pi * float64(c.Bung*c.Bung) / 100000; float64(whole.Lo) > x || float64(whole.Hi) < x {
			t.Errorf("%v is not %v", whole, x)
		}
	}
}

// TestTrueBooks: P4.9: what casks truly held lies in all that is told, and nobody is blamed.
func TestTrueBooks(t *testing.T) {
	r := rand.New(rand.NewSource(5))
	for range 300 {
		d := someDiary(r)
		pairs, e := Contradictions(d.book)
		want(t, "no contradictions", pairs, e, nil, api.OK)
		blamed, e := Blamed(d.book)
		want(t, "nobody is blamed", blamed, e, nil, api.OK)
		for day := range diaryDays {
			total := 0
			for _, name := range d.gauged {
				held := d.held[name][day]
				total += held
				volume, e := VolumeAt(d.book, name, day)
				if e != api.OK || 1000*volume.Lo > held || 1000*volume.Hi < held {
					t.Errorf("%s held %d on the day %d: %v, %d", name, held, day, volume, e)
				}
			}
			for n, x := range d.book.Readings {
				held := d.held[x.Cask][day]
				volume, e := ExpectedAt(d.book, n, day)
				if e != api.OK || 1000*volume.Lo > held || 1000*volume.Hi < held {
					t.Errorf("%s held %d on the day %d, by the gauging %d: %v, %d", x.Cask, held, day, n, volume, e)
				}
			}
			all, e := TotalAt(d.book, day)
			if len(d.gauged) == 0 {
				refused(t, "no gaugings", all, e, api.ErrNone)
			} else if e != api.OK || 1000*all.Lo > total || 1000*all.Hi < total {
				t.Errorf("all held %d on the day %d: %v, %d", total, day, all, e)
			}
		}
	}
}

// TestBooksPlainly compares what is told of a book with the definitions (P4.4, P4.5), and asks for P4.10.
func TestBooksPlainly(t *testing.T) {
	r := rand.New(rand.NewSource(6))
	right, wrong := 0, 0
	for range 300 {
		b := disturbed(r, someDiary(r).book)
		plain := plainContradictions(b)
		pairs, e := Contradictions(b)
		want(t, fmt.Sprint("the contradictions of ", b), pairs, e, plain, api.OK)
		for range 6 {
			day := r.Intn(60)
			for n := range b.Readings {
				volume, e := ExpectedAt(b, n, day)
				want(t, fmt.Sprint(b, n, day), volume, e, plainTold(plainAllowed(b, n, day)), api.OK)
			}
			total, clashes, gaugings := api.Range{}, false, len(b.Readings)
			for _, name := range []string{"a", "b", "c", "d"} {
				volume, e := VolumeAt(b, name, day)
				plain, f := plainHeld(b, plain, name, day)
				want(t, fmt.Sprint(b, name, day), volume, e, plain, f)
				clashes = clashes || f == api.ErrClash
				total = from(total.Lo+plain.Lo, total.Hi+plain.Hi)
				switch f {
				case api.OK:
					right++
				case api.ErrClash:
					wrong++
				}
			}
			all, e := TotalAt(b, day)
			switch {
			case gaugings == 0:
				refused(t, "no gaugings", all, e, api.ErrNone)
			case clashes:
				refused(t, "a contradiction", all, e, api.ErrClash)
			default:
				want(t, fmt.Sprint(b, day), all, e, total, api.OK)
			}
		}
	}
	if right < 500 || wrong < 500 {
		t.Errorf("only %d casks are right, %d are wrong", right, wrong)
	}
}

// plainHeld is what all gaugings of a cask allow on a day, if none of them contradict.
func plainHeld(b api.GaugeBook, contradictions [][2]int, cask string, day int) (api.Range, api.Errno) {
	out, isGauged := from(math.MinInt, math.MaxInt), false
	for n, x := range b.Readings {
		if x.Cask == cask {
			r := plainAllowed(b, n, day)
			out, isGauged = from(max(out.Lo, r.Lo), min(out.Hi, r.Hi)), true
		}
	}
	if !isGauged {
		return api.Range{}, api.ErrNone
	}
	for _, p := range contradictions {
		if b.Readings[p[0]].Cask == cask {
			return api.Range{}, api.ErrClash
		}
	}
	return plainTold(out), api.OK
}

// TestNetsPlainly compares NetOf with the moves day by day (P4.3).
func TestNetsPlainly(t *testing.T) {
	r := rand.New(rand.NewSource(7))
	for range 300 {
		b := someDiary(r).book
		first := r.Intn(diaryDays)
		last := first + r.Intn(diaryDays-first)
		for _, name := range []string{"a", "b", "d", "e"} {
			plain := 0
			for day := first + 1; day <= last; day++ {
				plain += plainNet(b, name, day)
			}
			n, e := NetOf(b, name, [2]int{first, last})
			want(t, fmt.Sprint(b, name, first, last), n, e, plain, api.OK)
		}
	}
}

// TestBlamedPlainly: P4.11.
func TestBlamedPlainly(t *testing.T) {
	r := rand.New(rand.NewSource(8))
	several := 0
	for range 600 {
		b := disturbed(r, someDiary(r).book)
		blamed, e := Blamed(b)
		want(t, fmt.Sprint("blamed of ", b), blamed, e, plainBlamed(b), api.OK)
		want(t, "CheckBlamed", 0, CheckBlamed(b, blamed), 0, api.OK)
		rest, e := Without(b, blamed)
		pairs, f := Contradictions(rest)
		want(t, "nothing contradicts without them", pairs, f, nil, e)
		if len(blamed) > 1 {
			several++
			for n := range blamed {
				want(t, "no fewer would do", 0, CheckBlamed(b, slices.Delete(slices.Clone(blamed), n, n+1)), 0, api.ErrProof)
			}
		}
		checkGone(t, b)
	}
	if several < 100 {
		t.Errorf("only %d books blame several gaugings", several)
	}
}

// checkGone compares Gone with the definition; something is surely gone, or has surely come, between gaugings that contradict.
func checkGone(t *testing.T, b api.GaugeBook) {
	t.Helper()
	for i, x := range b.Readings {
		for j := i + 1; j < len(b.Readings); j++ {
			y := b.Readings[j]
			gone, e := Gone(b, [2]int{i, j})
			is, f := Contradicts(b, [2]int{i, j})
			if x.Cask != y.Cask {
				refused(t, "two casks", gone, e, api.ErrClash)
				refused(t, "two casks", is, f, api.ErrClash)
				continue
			}
			r := plainTold(plainAllowed(b, i, y.Day))
			want(t, fmt.Sprint(b, i, j), gone, e, from(r.Lo-y.Volume.Hi, r.Hi-y.Volume.Lo), api.OK)
			want(t, fmt.Sprint(b, i, j), is, f, plainContradicts(b, i, j), api.OK)
			if is && gone.Lo < 0 && gone.Hi > 0 {
				t.Errorf("%v between gaugings that contradict", gone)
			}
		}
	}
}

// TestGarbledTexts: P4.12, and R9: a gauging has one text only, so what is read is written in the same way again.
func TestGarbledTexts(t *testing.T) {
	r := rand.New(rand.NewSource(9))
	right := 0
	for range 20000 {
		x := someGauging(r)
		again, e := ParseGauging(FormatGauging(x))
		want(t, "a right gauging", again, e, x, api.OK)
		text := garbled(r, FormatGauging(x))
		g, e := ParseGauging(text)
		if e != api.OK {
			refused(t, fmt.Sprintf("%q", text), g, e, e)
			continue
		}
		right++
		want(t, "the text again", FormatGauging(g), gaugingError(g), text, api.OK)
	}
	if right < 2000 {
		t.Errorf("only %d texts were right", right)
	}
}
