package outline

import (
	"indelible/api"
	"indelible/axis"
	"indelible/exact"
)

// full is the weight of a delta that adds its moves as they are.
const full = 4096

// Instance returns an outline at a normalized position.
func Instance(o [][]api.Point, l []api.Delta, at []int) ([][]api.Point, api.Errno) {
	if errno := checkDeltas(l, len(at), Count(o)); errno != api.OK {
		return nil, errno
	}
	weights := make([]int, len(l))
	for i, d := range l {
		weights[i] = weight(d.Region, at)
	}
	return changed(o, func(k int, p api.Point) api.Point {
		var x, y int
		for i, d := range l {
			x += weights[i] * d.Moves[k].X
			y += weights[i] * d.Moves[k].Y
		}
		return api.Point{X: p.X + unweighted(x), Y: p.Y + unweighted(y), On: p.On}
	}), api.OK
}

// checkDeltas reports whether deltas fit a number of positions and a number of points.
func checkDeltas(l []api.Delta, positions, points int) api.Errno {
	if len(l) > api.MaxDeltas {
		return api.ErrMany
	}
	for _, d := range l {
		if !axis.Fits(d.Region, positions) || len(d.Moves) != points {
			return api.ErrRegion
		}
	}
	return api.OK
}

// weight returns the weight of a region at a position. A region of many tents can have a value of which 4096 times the numerator is no int: half of twice the weight rounds to the same, and MulDiv computes that exactly.
func weight(region []api.Tent, at []int) int {
	value := axis.Scalar(region, at)
	twice, _ := exact.MulDiv(2*full, value.N, value.D)
	n, _ := exact.Round(twice, 2)
	return n
}

// unweighted returns the coordinate of a sum of weighted moves.
func unweighted(sum int) int {
	n, _ := exact.Round(sum, full)
	return n
}
