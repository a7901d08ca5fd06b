package gauge

import (
	"sort"

	"criadera/api"
	"criadera/checks"
	"criadera/ranges"
)

// volumeTo is the volume up to a dip.
func (c vessel) volumeTo(dip int) api.Range {
	var sum api.Range
	for _, s := range c.stretches {
		sum.Lo += s.length * s.inner.upTo(dip-c.Bung).Lo
		sum.Hi += s.length * s.outer.upTo(dip-c.Bung).Hi
	}
	return ranges.Over(sum, api.GaugeDecilitre)
}

// VolumeTo returns the volume up to a dip.
func VolumeTo(c api.GaugeCask, dip int) (api.Range, api.Errno) {
	checked, e := vesselOf(c)
	if e := checks.First(e, checked.dipError(dip)); e != api.OK {
		return api.Range{}, e
	}
	return checked.volumeTo(dip), api.OK
}

// VolumeOf returns the volume of a cask.
func VolumeOf(c api.GaugeCask) (api.Range, api.Errno) { return VolumeTo(c, 2*c.Bung) }

// DipOf returns the dips up to which the volume may be so much. The ends of volumes do not fall with the dip, so that the dips need not be tried one by one.
func DipOf(c api.GaugeCask, volume int) (api.Range, api.Errno) {
	checked, e := vesselOf(c)
	if e := checks.First(e, checks.Number(volume, 0, api.MaxVolume)); e != api.OK {
		return api.Range{}, e
	}
	dips := checked.deepest() + 1
	enough := sort.Search(dips, func(dip int) bool { return checked.volumeTo(dip).Hi >= volume })
	tooMuch := sort.Search(dips, func(dip int) bool { return checked.volumeTo(dip).Lo > volume })
	if enough >= tooMuch {
		return api.Range{}, api.ErrNone
	}
	return api.Range{Lo: enough, Hi: tooMuch - 1}, api.OK
}

// TableOf returns the volumes up to all dips that a step divides.
func TableOf(c api.GaugeCask, step int) ([]api.GaugeRow, api.Errno) {
	checked, e := vesselOf(c)
	if e := checks.First(e, checks.Number(step, 10, api.MaxGaugeRadius)); e != api.OK {
		return nil, e
	}
	var rows []api.GaugeRow
	for dip := 0; dip <= checked.deepest(); dip += step {
		rows = append(rows, api.GaugeRow{Dip: dip, Volume: checked.volumeTo(dip)})
	}
	return rows, api.OK
}

// FromDip returns the gauging of a cask by a dip that may be wrong.
func FromDip(c api.GaugeCask, x api.GaugeDip) (api.GaugeReading, api.Errno) {
	checked, e := vesselOf(c)
	if e := checks.First(e, checks.Date(x.Day), checked.dipError(x.Dip), checked.dipError(x.Wrong)); e != api.OK {
		return api.GaugeReading{}, e
	}
	volume := api.Range{
		Lo: checked.volumeTo(max(0, x.Dip-x.Wrong)).Lo,
		Hi: checked.volumeTo(min(checked.deepest(), x.Dip+x.Wrong)).Hi,
	}
	if volume.Hi > api.MaxVolume {
		return api.GaugeReading{}, api.ErrLarge
	}
	return api.GaugeReading{Cask: c.Name, Day: x.Day, Volume: volume}, api.OK
}
