package flor

import (
	"iter"
	"math"

	"criadera/api"
	"criadera/checks"
	"criadera/ranges"
)

// A mixture is wines that are put together.
type mixture []checked

// volume is the volume of all wines together.
func (m mixture) volume() api.Range {
	var all api.Range
	for _, w := range m {
		all.Lo += w.leastVolume()
		all.Hi += w.mostVolume()
	}
	return all
}

// corners yields all choices of an end of each volume, but not the one in which there is no wine at all. A mean is least, and greatest, in one of them: with one volume alone it goes up all the way, or down.
func (m mixture) corners() iter.Seq[[]int] {
	ends := [2]end{checked.leastVolume, checked.mostVolume}
	return func(yield func(volumes []int) bool) {
		for choice := range 1 << len(m) {
			volumes, total := make([]int, len(m)), 0
			for n, w := range m {
				volumes[n] = ends[choice>>n&1](w)
				total += volumes[n]
			}
			if total > 0 && !yield(volumes) {
				return
			}
		}
	}
}

// means goes from the least mean of the one end of a value to the greatest mean of the other one. Rounding keeps the order, so that rounded means may be compared.
func (m mixture) means(least, most end) api.Range {
	out := api.Range{Lo: math.MaxInt}
	for volumes := range m.corners() {
		total, low, high := 0, 0, 0
		for n, w := range m {
			total += volumes[n]
			low += volumes[n] * least(w)
			high += volumes[n] * most(w)
		}
		out.Lo = min(out.Lo, ranges.Floor(low, total))
		out.Hi = max(out.Hi, ranges.Ceiling(high, total))
	}
	return out
}

// Mixed returns the mixed wine.
func Mixed(l []api.FlorWine) (api.FlorWine, api.Errno) {
	if e := checks.First(checks.Unless(len(l) > 0, api.ErrShape), checks.Unless(len(l) <= api.MaxFlorWines, api.ErrLarge)); e != api.OK {
		return api.FlorWine{}, e
	}
	m := make(mixture, 0, len(l))
	for _, w := range l {
		if e := CheckWine(w); e != api.OK {
			return api.FlorWine{}, e
		}
		m = append(m, checked{w})
	}
	volume := m.volume()
	if e := checks.First(checks.Unless(volume.Hi > 0, api.ErrEmpty), checks.Unless(volume.Hi <= api.MaxVolume, api.ErrLarge)); e != api.OK {
		return api.FlorWine{}, e
	}
	return api.FlorWine{
		Volume:   volume,
		Strength: m.means(checked.leastStrength, checked.mostStrength),
		Sugar:    m.means(checked.leastSugar, checked.mostSugar),
	}, api.OK
}

// Drawn returns the wine that is left if a volume is drawn.
func Drawn(w api.FlorWine, volume api.Range) (api.FlorWine, api.Errno) {
	if e := checks.First(CheckWine(w), checks.Range(volume, api.MaxVolume), checks.Unless(w.Volume.Lo >= volume.Hi, api.ErrBreak)); e != api.OK {
		return api.FlorWine{}, e
	}
	w.Volume = api.Range{Lo: w.Volume.Lo - volume.Hi, Hi: w.Volume.Hi - volume.Lo}
	return w, api.OK
}

// Fortified returns the wine mixed with spirit. Mixed asks for the wine and then for the spirit as Fortified must.
func Fortified(w api.FlorWine, x api.FlorSpirit) (api.FlorWine, api.Errno) {
	spirit := api.FlorWine{Volume: exactly(x.Volume), Strength: exactly(x.Strength)}
	return Mixed([]api.FlorWine{w, spirit})
}

// SpiritFor returns how much spirit is needed to reach a target: the least wine with the most strength needs the least, the most wine with the least strength the most.
func SpiritFor(w api.FlorWine, strength, target int) (api.Range, api.Errno) {
	if e := checks.First(CheckWine(w), strengthError(strength), strengthError(target), checks.Unless(strength > target, api.ErrZero)); e != api.OK {
		return api.Range{}, e
	}
	needed := func(volume, of end) int {
		missing := max(0, target-of(checked{w}))
		return ranges.Ceiling(volume(checked{w})*missing, strength-target)
	}
	out := api.Range{Lo: needed(checked.leastVolume, checked.mostStrength), Hi: needed(checked.mostVolume, checked.leastStrength)}
	if out.Hi > api.MaxVolume {
		return api.Range{}, api.ErrLarge
	}
	return out, api.OK
}
