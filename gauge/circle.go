package gauge

import (
	"criadera/api"
	"criadera/checks"
)

// rootOf is the root of a number, rounded down. The bits are enough for the greatest width, 2 times MaxGaugeRadius.
func rootOf(n int) int {
	root := 0
	for bit := 1 << 10; bit > 0; bit /= 2 {
		if (root+bit)*(root+bit) <= n {
			root += bit
		}
	}
	return root
}

// widthOf is the width of a circle at a height, rounded down and up.
func widthOf(radius, height int) api.Range {
	square := 4 * (radius*radius - height*height)
	root := rootOf(square)
	if root*root == square {
		return api.Range{Lo: root, Hi: root}
	}
	return api.Range{Lo: root, Hi: root + 1}
}

// areas is the area of a circle up to each of its levels, from the lowest one on.
type areas []api.Range

// areasOf adds, from each height to the next one, the lesser width and the greater one. Rounding keeps their order, so that rounded widths may be compared.
func areasOf(radius int) areas {
	var area api.Range
	l := make(areas, 0, 2*radius+1)
	l = append(l, area)
	width := widthOf(radius, -radius)
	for height := 1 - radius; height <= radius; height++ {
		above := widthOf(radius, height)
		area.Lo += min(width.Lo, above.Lo)
		area.Hi += max(width.Hi, above.Hi)
		l = append(l, area)
		width = above
	}
	return l
}

// upTo is the area up to a level, which may lie beyond the circle.
func (l areas) upTo(level int) api.Range {
	top := len(l) - 1
	return l[min(max(0, top/2+level), top)]
}

// AreaTo returns the area of a circle up to a level.
func AreaTo(radius, level int) (api.Range, api.Errno) {
	if e := checks.First(checks.Number(radius, api.LeastGaugeRadius, api.MaxGaugeRadius), checks.Number(level, -radius, radius)); e != api.OK {
		return api.Range{}, e
	}
	return areasOf(radius).upTo(level), api.OK
}
