package house

import (
	"fmt"
	"math/big"
	"slices"
	"strings"

	"criadera/api"
	"criadera/certify"
	"criadera/flor"
	"criadera/gauge"
	"criadera/scale"
	"criadera/taste"
)

// A plainWine is how much there is of each source.
type plainWine map[int]*big.Rat

// A plainCask is a cask with its wine and its marks (nil if it has no sheet).
type plainCask struct {
	name     string
	capacity int
	wine     plainWine
	marks    []int
	isSealed bool
}

// A plainBook is what a log of home comes to, as the chapter tells it, in fractions and lines.
type plainBook struct {
	day, rate, due, paid                            int
	casks                                           []*plainCask
	in, sold, lost                                  plainWine
	sealed, marked                                  []string // in their order
	gaugings, losses, moves, lose, old, certificate []string
}

func newPlain() *plainBook {
	return &plainBook{in: plainWine{}, sold: plainWine{}, lost: plainWine{}}
}

// volume is how much there is of all sources.
func (w plainWine) volume() *big.Rat {
	sum := new(big.Rat)
	for _, amount := range w {
		sum.Add(sum, amount)
	}
	return sum
}

func (w plainWine) clone() plainWine {
	out := plainWine{}
	for source, amount := range w {
		out[source] = new(big.Rat).Set(amount)
	}
	return out
}

// pour puts a share of another wine to a wine, or takes it away if times is -1.
func (w plainWine) pour(other plainWine, share *big.Rat, times int64) {
	for source, amount := range other.clone() {
		if w[source] == nil {
			w[source] = new(big.Rat)
		}
		w[source].Add(w[source], amount.Mul(amount, share).Mul(amount, big.NewRat(times, 1)))
		if w[source].Sign() == 0 {
			delete(w, source)
		}
	}
}

// isTooLarge tells whether the wine has a denominator that is too large.
func (w plainWine) isTooLarge() bool {
	den := big.NewInt(1)
	for _, amount := range w {
		divisor := new(big.Int).GCD(nil, nil, den, amount.Denom())
		den.Mul(den, new(big.Int).Div(amount.Denom(), divisor))
	}
	return den.Cmp(big.NewInt(api.MaxScaleDen)) > 0
}

// isLike tells whether a wine is this one.
func (w plainWine) isLike(other api.ScaleWine) bool {
	for _, p := range other.Parts {
		if w[p.Source] == nil || w[p.Source].Cmp(big.NewRat(int64(p.Amount), int64(other.Den))) != 0 {
			return false
		}
	}
	return len(w) == len(other.Parts) && scale.CheckWine(other) == api.OK
}

// age is the mean age of the vintages in a wine, and whether it is a small fraction.
func (w plainWine) age(year int) (*big.Rat, bool) {
	sum, all := new(big.Rat), new(big.Rat)
	for source, amount := range w {
		if source <= 400 {
			all.Add(all, amount)
			sum.Add(sum, new(big.Rat).Mul(amount, big.NewRat(int64(year-source), 1)))
		}
	}
	if all.Sign() == 0 {
		return nil, false
	}
	sum.Quo(sum, all)
	most := big.NewInt(api.MaxPart)
	return sum, sum.Num().CmpAbs(most) <= 0 && sum.Denom().Cmp(most) <= 0
}

func (p *plainBook) cask(name string) *plainCask {
	for _, c := range p.casks {
		if c.name == name {
			return c
		}
	}
	return nil
}

// roles is who may do what, at least.
func roles() map[string]int {
	return map[string]int{"day": 0, "cask": 0, "fill": 0, "draw": 0, "move": 0, "lose": 0, "join": 0, "gauge": 0, "sheet": 1, "loss": 2, "pay": 2, "part": 2, "entry": 2, "certify": 2, "seal": 3, "open": 3, "duty": 3}
}

// enter is the error of an entry; without one the book is that behind it.
func (p *plainBook) enter(x api.HouseEntry) api.Errno {
	role, isPerson := map[string]int{"ann": 0, "tom": 1, "cy": 2, "ivy": 3}[x.By]
	word, rest, _ := strings.Cut(x.Text, " ")
	needed, isKind := roles()[word]
	switch {
	case !isPerson:
		return api.ErrMissing
	case len(x.Text) > 300:
		return api.ErrLarge
	case !isKind:
		return api.ErrSyntax
	case role < needed:
		return api.ErrAllowed
	case strings.Contains(" "+x.Text+" ", "  ") || strings.Contains(x.Text, "\n"):
		return api.ErrSyntax
	}
	switch word {
	case "day", "pay", "duty":
		var n int
		if _, err := fmt.Sscanf(rest, "%d", &n); err != nil || fmt.Sprint(n) != rest || len(strings.Trim(rest, "-")) > 9 {
			return api.ErrSyntax
		}
		return p.number(word, n)
	case "seal", "open":
		if rest == "" || strings.Contains(rest, " ") {
			return api.ErrSyntax
		}
		return p.seal(word, rest)
	case "gauge":
		return p.gauge(rest)
	case "sheet":
		return p.sheet(rest)
	case "loss":
		return p.loss(rest)
	case "part", "entry", "certify":
		return p.oldWine(word, x.Text, rest)
	}
	return p.act(x.Text)
}

func (p *plainBook) number(word string, n int) api.Errno {
	switch {
	case word == "day" && (n < 0 || n > 100000), word == "pay" && (n < 1 || n > 1000000000), word == "duty" && (n < 0 || n > 1000):
		return api.ErrRange
	case word == "day" && n < p.day:
		return api.ErrOrder
	case word == "pay" && p.paid+n > p.due:
		return api.ErrLarge
	case word == "day":
		p.day = n
	case word == "pay":
		p.paid += n
	default:
		p.rate = n
	}
	return api.OK
}

func (p *plainBook) seal(word, name string) api.Errno {
	c := p.cask(name)
	switch {
	case c == nil:
		return api.ErrMissing
	case word == "seal" && c.isSealed:
		return api.ErrDouble
	case word == "open" && !c.isSealed:
		return api.ErrState
	}
	c.isSealed = word == "seal"
	if c.isSealed {
		p.sealed = append(p.sealed, name)
	} else {
		n := slices.Index(p.sealed, name)
		p.sealed = slices.Delete(p.sealed, n, n+1)
	}
	return api.OK
}

func (p *plainBook) gauge(rest string) api.Errno {
	x, e := gauge.ParseGauging(rest)
	switch {
	case e != api.OK:
		return e
	case p.cask(x.Cask) == nil:
		return api.ErrMissing
	case x.Day != p.day:
		return api.ErrClash
	case len(p.gaugings) == 40:
		return api.ErrFull
	}
	p.gaugings = append(p.gaugings, rest)
	return api.OK
}

func (p *plainBook) sheet(rest string) api.Errno {
	x, e := taste.ParseSheet(rest)
	if e != api.OK {
		return e
	}
	c := p.cask(x.Cask)
	if c == nil {
		return api.ErrMissing
	}
	if len(c.marks)+len(x.Marks) > 40 {
		return api.ErrLarge
	}
	if slices.ContainsFunc(x.Marks, func(mark int) bool { return mark > 1 }) {
		return api.ErrMissing
	}
	if c.marks == nil {
		p.marked = append(p.marked, c.name)
	}
	c.marks = append(append([]int{}, c.marks...), x.Marks...)
	return api.OK
}

func (p *plainBook) loss(rest string) api.Errno {
	x, e := flor.ParseLoss(rest)
	switch {
	case e != api.OK:
		return e
	case p.cask(x.Cask) == nil:
		return api.ErrMissing
	case x.To > p.day:
		return api.ErrOrder
	}
	p.losses = append(p.losses, rest)
	return api.OK
}

// oldBook is the text of the book of the old wine.
func (p *plainBook) oldBook() string { return strings.Join(append(slices.Clone(p.old), ""), "\n") }

func (p *plainBook) oldWine(word, text, rest string) api.Errno {
	if word == "certify" {
		c, e := certify.ParseCertificate(rest)
		if e != api.OK {
			return e
		}
		if slices.ContainsFunc(p.certificate, func(other string) bool { return strings.HasPrefix(other, c.Name+" ") }) {
			return api.ErrExists
		}
		book, _, _ := certify.Parse(p.oldBook())
		if e := certify.CheckCertificate(book, c); e != api.OK {
			return e
		}
		p.certificate = append(p.certificate, rest)
		return api.OK
	}
	if len(p.certificate) > 0 {
		return api.ErrState
	}
	_, _, e := certify.Parse(p.oldBook() + text + "\n")
	if e == api.OK {
		p.old = append(p.old, text)
	}
	return e
}

func (p *plainBook) act(text string) api.Errno {
	a, e := scale.ParseAct(text)
	if e != api.OK {
		return e
	}
	var casks []*plainCask
	for _, name := range a.Casks {
		c := p.cask(name)
		if c != nil && c.isSealed {
			return api.ErrBusy
		}
		casks = append(casks, c)
	}
	if a.Kind == api.ScaleAdd {
		if casks[0] != nil {
			return api.ErrExists
		}
		if len(p.casks) == 12 {
			return api.ErrFull
		}
		p.casks = append(p.casks, &plainCask{name: a.Casks[0], capacity: a.Volume, wine: plainWine{}})
		return api.OK
	}
	if slices.Contains(casks, nil) {
		return api.ErrMissing
	}
	first, last := casks[0], casks[len(casks)-1]
	volume := big.NewRat(int64(a.Volume), 1)
	isTaking := a.Kind == api.ScaleDraw || a.Kind == api.ScaleMove || a.Kind == api.ScaleLose
	if isTaking && first.wine.volume().Cmp(volume) < 0 {
		return api.ErrNone
	}
	filled := new(big.Rat).Add(last.wine.volume(), volume)
	if (a.Kind == api.ScaleFill || a.Kind == api.ScaleMove) && filled.Cmp(big.NewRat(int64(last.capacity), 1)) > 0 {
		return api.ErrFull
	}
	return p.change(a, casks, volume)
}

// change does an act that casks allow, unless some wine would be too large.
func (p *plainBook) change(a api.ScaleAct, casks []*plainCask, volume *big.Rat) api.Errno {
	whole := big.NewRat(1, 1)
	sold, lost := p.sold.clone(), p.lost.clone()
	in := p.in.clone()
	wines := make([]plainWine, len(casks))
	for n, c := range casks {
		wines[n] = c.wine.clone()
	}
	into := map[int]plainWine{api.ScaleDraw: sold, api.ScaleLose: lost, api.ScaleMove: wines[len(wines)-1]}[a.Kind]
	switch {
	case a.Kind == api.ScaleFill:
		fresh := plainWine{a.Source: volume}
		wines[0].pour(fresh, whole, 1)
		in.pour(fresh, whole, 1)
	case into != nil:
		before := wines[0].clone()
		share := new(big.Rat).Quo(volume, before.volume())
		wines[0].pour(before, share, -1)
		into.pour(before, share, 1)
	default:
		all := plainWine{}
		for _, w := range wines {
			all.pour(w, whole, 1)
		}
		for n, w := range wines {
			wines[n] = plainWine{}
			if v := w.volume(); v.Sign() > 0 {
				wines[n].pour(all, v.Quo(v, all.volume()), 1)
			}
		}
	}
	if slices.ContainsFunc(append(slices.Clone(wines), in, sold, lost), plainWine.isTooLarge) {
		return api.ErrLarge
	}
	for n, c := range casks {
		c.wine = wines[n]
	}
	p.in, p.sold, p.lost = in, sold, lost
	p.note(a)
	return api.OK
}

func (p *plainBook) note(a api.ScaleAct) {
	from, to := a.Casks[0], ""
	switch a.Kind {
	case api.ScaleJoin:
		return
	case api.ScaleLose:
		p.lose = append(p.lose, fmt.Sprintln(p.day, from, a.Volume))
		return
	case api.ScaleFill:
		from, to = "", a.Casks[0]
	case api.ScaleMove:
		to = a.Casks[1]
	case api.ScaleDraw:
		p.due += a.Volume * p.rate
	}
	p.moves = append(p.moves, fmt.Sprintf("{%d %s %s %d}", p.day, from, to, a.Volume))
}

// class is the class of a cask, mark by mark.
func (c *plainCask) class() string {
	if c.marks == nil {
		return "-"
	}
	rules := home().Rules
	at := 0
	for _, mark := range c.marks {
		at = rules.Classes[at].Next[mark]
	}
	return rules.Classes[at].Name
}

// line is the line of a cask.
func (p *plainBook) line(c *plainCask) string {
	age := "-"
	if f, isSmall := c.wine.age(p.day / 365); isSmall {
		age = fmt.Sprintf("%s/%s", f.Num(), f.Denom())
	}
	text := fmt.Sprintf("%s %s %s %s", c.name, c.wine.volume().RatString(), c.class(), age)
	if c.isSealed {
		text += " sealed"
	}
	return text
}

// unexplained is the numbers of losses that acts do not bear out.
func (p *plainBook) unexplained() []int {
	var l []int
	for n, text := range p.losses {
		x, _ := flor.ParseLoss(text)
		sum := 0
		for _, lost := range p.lose {
			var day, volume int
			var cask string
			fmt.Sscan(lost, &day, &cask, &volume)
			if cask == x.Cask && day >= x.From && day <= x.To {
				sum += volume
			}
		}
		if sum < x.Volume.Lo || sum > x.Volume.Hi {
			l = append(l, n)
		}
	}
	return l
}

func (p *plainBook) held() *big.Rat {
	sum := new(big.Rat)
	for _, c := range p.casks {
		sum.Add(sum, c.wine.volume())
	}
	return sum
}

// report is the report, with suspects as told.
func (p *plainBook) report(suspects string) string {
	text := ""
	for _, c := range p.casks {
		text += "cask " + p.line(c) + "\n"
	}
	unexplained := "-"
	if l := p.unexplained(); len(l) > 0 {
		unexplained = strings.Trim(fmt.Sprint(l), "[]")
	}
	text += fmt.Sprintf("balance %s %s %s %s\n", p.in.volume().RatString(), p.held().RatString(), p.sold.volume().RatString(), p.lost.volume().RatString())
	text += fmt.Sprintf("duty %d %d\nsuspects %s\nunexplained %s\n", p.due, p.paid, suspects, unexplained)
	for _, c := range p.certificate {
		text += "certified " + c + "\n"
	}
	return text
}
