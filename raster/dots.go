package raster

import (
	"indelible/api"
	"indelible/bitmap"
)

// enough is how many of its samples are inside of the polygons if a dot is set.
const enough = 2

// Dots returns the picture of polygons.
func Dots(l [][]api.Point, unit int) (api.Picture, api.Errno) {
	if !isUnit(unit) {
		return api.Picture{}, api.ErrArg
	}
	if !areInRange(l) {
		return api.Picture{}, api.ErrRange
	}
	p, errno := blank(l, unit)
	if errno != api.OK {
		return api.Picture{}, errno
	}
	for k, n := range covers(l, unit, p) {
		p.Map.Dots[k] = n >= enough
	}
	return p, api.OK
}

// blank returns the picture of polygons, in which no dot is set as yet.
func blank(l [][]api.Point, unit int) (api.Picture, api.Errno) {
	r := box(l)
	if r.X1 < r.X0 {
		return api.Picture{}, api.OK
	}
	left, low := floor(r.X0, unit), floor(r.Y0, unit)
	b, errno := bitmap.New(floor(r.X1, unit)-left+1, floor(r.Y1, unit)-low+1)
	return api.Picture{Left: left, Low: low, Map: b}, errno
}

// box returns the least and greatest coordinates of all points, which are in range; without points, the least are greater.
func box(l [][]api.Point) api.Rect {
	r := api.Rect{X0: bound, Y0: bound, X1: -bound, Y1: -bound}
	for _, c := range l {
		for _, p := range c {
			r = api.Rect{X0: min(r.X0, p.X), Y0: min(r.Y0, p.Y), X1: max(r.X1, p.X), Y1: max(r.Y1, p.Y)}
		}
	}
	return r
}

// covers returns, for each dot of a picture of polygons, how many of its samples are inside. It visits each edge once instead of once for each sample.
func covers(l [][]api.Point, unit int, p api.Picture) []int {
	n := make([]int, len(p.Map.Dots))
	by := turns(l, unit, p)
	for y := range perDot * p.Map.H {
		winding := 0
		for x := range perDot * p.Map.W {
			winding += by[y*columns(p)+x]
			if winding != 0 {
				n[y/perDot*p.Map.W+x/perDot]++
			}
		}
	}
	return n
}

// columns returns how many columns turns has: one for each column of samples, and one for the edges that pass no sample of a row on the left.
func columns(p api.Picture) int { return perDot*p.Map.W + 1 }

// turns returns, for each sample of a picture of polygons, by how much its winding number is greater than that of the sample before it in its row.
func turns(l [][]api.Point, unit int, p api.Picture) []int {
	n := make([]int, perDot*p.Map.H*columns(p))
	for e := range edges(l) {
		first, end := firstBeyond(e.low.Y-1, unit), firstBeyond(e.high.Y-1, unit)
		for k := range end - first {
			x := firstBeyond(e.at(sample(first+k, unit)), unit) - perDot*p.Left
			y := first + k - perDot*p.Low
			n[y*columns(p)+x] += e.way
		}
	}
	return n
}

// firstBeyond returns the number of the first sample whose coordinate is greater than n.
func firstBeyond(n, unit int) int { return floor(n+unit/4, unit/2) }
