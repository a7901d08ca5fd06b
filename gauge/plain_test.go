package gauge

import (
	"fmt"
	"math"
	"math/big"
	"math/rand"
	"slices"

	"criadera/api"
)

// The chapter told anew, as plainly as its definitions are: areas are added up level by level, and books are followed day by day.

func plainWidth(radius, height int) (down, up int) {
	square := big.NewInt(int64(4 * (radius*radius - height*height)))
	root := new(big.Int).Sqrt(square)
	down = int(root.Int64())
	if new(big.Int).Mul(root, root).Cmp(square) < 0 {
		return down, down + 1
	}
	return down, down
}

func plainArea(radius, level int) api.Range {
	var area api.Range
	for y := -radius; y < min(level, radius); y++ {
		down, up := plainWidth(radius, y)
		nextDown, nextUp := plainWidth(radius, y+1)
		area = from(area.Lo+min(down, nextDown), area.Hi+max(up, nextUp))
	}
	return area
}

func plainVolume(c api.GaugeCask, dip int) api.Range {
	var sum api.Range
	for n := 1; n < len(c.Stations); n++ {
		a, b := c.Stations[n-1], c.Stations[n]
		sum.Lo += (b.At - a.At) * plainArea(min(a.Inner, b.Inner), dip-c.Bung).Lo
		sum.Hi += (b.At - a.At) * plainArea(max(a.Outer, b.Outer), dip-c.Bung).Hi
	}
	return from(sum.Lo/100000, (sum.Hi+99999)/100000)
}

// trueArea is the area of a circle up to a level, which may lie beyond it.
func trueArea(radius, level float64) float64 {
	level = max(-radius, min(level, radius))
	return level*math.Sqrt(radius*radius-level*level) + radius*radius*(math.Asin(level/radius)+math.Pi/2)
}

// trueVolume is the volume, in decilitres, up to a dip of a random cask between the permitted curves.
func trueVolume(r *rand.Rand, c api.GaugeCask, dip int) float64 {
	volume := 0.0
	for n := 1; n < len(c.Stations); n++ {
		a, b := c.Stations[n-1], c.Stations[n]
		least, most := min(a.Inner, b.Inner), max(a.Outer, b.Outer)
		pieces := 1 + r.Intn(5)
		for range pieces {
			radius := float64(least) + float64(most-least)*[]float64{0, 1, r.Float64(), r.Float64()}[r.Intn(4)]
			volume += float64(b.At-a.At) / float64(pieces) * trueArea(radius, float64(dip-c.Bung)) / 100000
		}
	}
	return volume
}

func someCask(r *rand.Rand, bung int) api.GaugeCask {
	c := api.GaugeCask{Name: "butt", Bung: bung}
	places := r.Perm(api.MaxGaugeLength + 1)[:2+r.Intn(11)]
	slices.Sort(places)
	for _, at := range places {
		inner := 10 + r.Intn(bung-9)
		outer := inner + r.Intn(bung-inner+1)
		if r.Intn(3) == 0 {
			outer = inner
		}
		c.Stations = append(c.Stations, api.GaugeStation{At: at, Inner: inner, Outer: outer})
	}
	return c
}

// plainAllowed goes from a gauging's day to another one, day by day.
func plainAllowed(b api.GaugeBook, reading, day int) api.Range {
	x := b.Readings[reading]
	r := from(1000*x.Volume.Lo, 1000*x.Volume.Hi)
	for d := x.Day + 1; d <= day; d++ {
		n := 1000 * plainNet(b, x.Cask, d)
		r = from(r.Lo+n-b.Loss.Hi, r.Hi+n-b.Loss.Lo)
	}
	for d := x.Day; d > day; d-- {
		n := 1000 * plainNet(b, x.Cask, d)
		r = from(r.Lo-n+b.Loss.Lo, r.Hi-n+b.Loss.Hi)
	}
	return r
}

// plainNet is what was moved into a cask on a day, less what was moved out of it.
func plainNet(b api.GaugeBook, cask string, day int) int {
	net := 0
	for _, m := range b.Moves {
		if m.Day == day && m.To == cask {
			net += m.Volume
		}
		if m.Day == day && m.From == cask {
			net -= m.Volume
		}
	}
	return net
}

func plainTold(r api.Range) api.Range {
	return from(int(math.Floor(float64(r.Lo)/1000)), int(math.Ceil(float64(r.Hi)/1000)))
}

func plainContradicts(b api.GaugeBook, i, j int) bool {
	x, y := b.Readings[i], b.Readings[j]
	if x.Cask != y.Cask {
		return false
	}
	r := plainAllowed(b, i, y.Day)
	return r.Hi < 1000*y.Volume.Lo || r.Lo > 1000*y.Volume.Hi
}

// plainContradictions is all pairs that contradict.
func plainContradictions(b api.GaugeBook) [][2]int {
	var l [][2]int
	for i := range b.Readings {
		for j := i + 1; j < len(b.Readings); j++ {
			if plainContradicts(b, i, j) {
				l = append(l, [2]int{i, j})
			}
		}
	}
	return l
}

// plainBlamed tries lists of gaugings, the shorter ones first, in lexicographic order.
func plainBlamed(b api.GaugeBook) []int {
	pairs := plainContradictions(b)
	explains := func(l []int) bool {
		for _, p := range pairs {
			if !slices.Contains(l, p[0]) && !slices.Contains(l, p[1]) {
				return false
			}
		}
		return true
	}
	var longer func(l []int, next, more int) []int
	longer = func(l []int, next, more int) []int {
		if more == 0 {
			if explains(l) {
				return slices.Clone(l)
			}
			return nil
		}
		for n := next; n < len(b.Readings); n++ {
			if found := longer(append(l, n), n+1, more-1); found != nil {
				return found
			}
		}
		return nil
	}
	if len(pairs) == 0 {
		return nil
	}
	for many := 1; ; many++ {
		if found := longer(nil, 0, many); found != nil {
			return found
		}
	}
}

// A diary is what casks truly held at the end of each day, in thousandths of a decilitre, and a book of it.
type diary struct {
	book   api.GaugeBook
	held   map[string][]int
	gauged []string
}

const diaryDays = 40

// someDiary lets casks lose from day to day what is permitted; gaugings enclose what they held.
func someDiary(r *rand.Rand) diary {
	loss := []api.Range{from(0, 0), from(0, 3000), from(500, 500), from(200, 1500), from(1, 999)}[r.Intn(5)]
	d := diary{book: api.GaugeBook{Loss: loss}, held: map[string][]int{}}
	names := []string{"a", "b", "c"}
	places := append([]string{"", "d"}, names...)
	for day := range diaryDays {
		for range max(0, r.Intn(4)-2) {
			if i, j := r.Intn(len(places)), r.Intn(len(places)); i != j {
				d.book.Moves = append(d.book.Moves, moved(day, places[i], places[j], r.Intn(30)))
			}
		}
		for _, name := range names {
			if day == 0 {
				d.held[name] = []int{1000*(2000+r.Intn(1000)) + r.Intn(1000)}
			} else {
				lost := loss.Lo + []int{0, loss.Hi - loss.Lo, r.Intn(loss.Hi - loss.Lo + 1)}[r.Intn(3)]
				d.held[name] = append(d.held[name], d.held[name][day-1]-lost+1000*plainNet(d.book, name, day))
			}
			if r.Intn(10) == 0 && len(d.book.Readings) < 12 {
				held := d.held[name][day]
				d.book.Readings = append(d.book.Readings, gauged(name, day, held/1000-r.Intn(3), held/1000+1+r.Intn(3)))
				if !slices.Contains(d.gauged, name) {
					d.gauged = append(d.gauged, name)
				}
			}
		}
	}
	return d
}

// disturbed is a book some of whose gaugings are wrong, or that permits other losses.
func disturbed(r *rand.Rand, b api.GaugeBook) api.GaugeBook {
	b = copied(b)
	if r.Intn(4) == 0 {
		b.Loss = from(b.Loss.Lo/2, b.Loss.Hi-(b.Loss.Hi-b.Loss.Lo)/4)
	}
	for n := range b.Readings {
		if r.Intn(3) == 0 {
			by := r.Intn(41) - 20
			b.Readings[n].Volume.Lo += by
			b.Readings[n].Volume.Hi += by
		}
	}
	return b
}

// garbled puts a few pieces into a text, in the place of others.
func garbled(r *rand.Rand, text string) string {
	pieces := []string{"", " ", "a", "0", "-", "9", "-5", " 5", "+", "\n", "\xff"}
	for range r.Intn(3) {
		at := r.Intn(len(text) + 1)
		text = text[:at] + pieces[r.Intn(len(pieces))] + text[min(len(text), at+r.Intn(3)):]
	}
	return text
}

func someGauging(r *rand.Rand) api.GaugeReading {
	lo := r.Intn(api.MaxVolume + 1)
	return gauged(fmt.Sprint("butt-", r.Intn(100)), r.Intn(api.MaxDate+1), lo, lo+r.Intn(api.MaxVolume-lo+1))
}
