package outline

import "indelible/api"

const (
	// unit is what a unit of an outline becomes in its polygons.
	unit = 32
	// parts is the number of edges by which a polygon follows a curve.
	parts = 4
)

// Flat returns the polygons of an outline, at 32 times its units.
func Flat(o [][]api.Point) [][]api.Point {
	l := make([][]api.Point, len(o))
	for i, c := range o {
		l[i] = polygon(c)
	}
	return l
}

func polygon(c []api.Point) []api.Point {
	var l []api.Point
	for k, p := range c {
		if isOn(c, k) {
			l = append(l, api.Point{X: unit * p.X, Y: unit * p.Y, On: true})
		} else {
			l = append(l, curve(c, k)...)
		}
	}
	return l
}

// isOn reports whether the point number k of a contour is on the curve.
func isOn(c []api.Point, k int) bool { return c[k].On || k == 0 }

// curve returns what a polygon has for the point number k of a contour, which is off the curve. The end of the curve is among it where no point of the contour stands for it.
func curve(c []api.Point, k int) []api.Point {
	after := (k + 1) % len(c)
	first, last := twiceEnd(c, k, k-1), twiceEnd(c, k, after)
	n := parts
	if isOn(c, after) {
		n--
	}
	l := make([]api.Point, n)
	for i := range l {
		t := i + 1
		l[i] = api.Point{X: onCurve(first.X, c[k].X, last.X, t), Y: onCurve(first.Y, c[k].Y, last.Y, t), On: true}
	}
	return l
}

// twiceEnd returns twice the end of the curve of the point number k on the side of a neighbour, so that the middle of both is in whole numbers.
func twiceEnd(c []api.Point, k, neighbour int) api.Move {
	p, q := c[k], c[neighbour]
	if isOn(c, neighbour) {
		p = q
	}
	return api.Move{X: p.X + q.X, Y: p.Y + q.Y}
}

// onCurve returns a coordinate of the point at t / 4 on the curve from a to c, of which twice is given, with b off the curve, at 32 times its units.
func onCurve(twiceA, b, twiceC, t int) int {
	s := parts - t
	return twiceA*s*s + 4*b*s*t + twiceC*t*t
}
