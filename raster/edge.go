package raster

import (
	"iter"

	"indelible/api"
)

// edge is an edge of a polygon, from its lower end to its higher one; way is 1 if it leads upwards, -1 if it leads downwards.
type edge struct {
	low, high api.Point
	way       int
}

// edges produces the edges of polygons.
func edges(l [][]api.Point) iter.Seq[edge] {
	return func(yield func(e edge) bool) {
		for _, c := range l {
			for k, p := range c {
				if !yield(newEdge(p, c[(k+1)%len(c)])) {
					return
				}
			}
		}
	}
}

func newEdge(p, q api.Point) edge {
	if p.Y <= q.Y {
		return edge{p, q, 1}
	}
	return edge{q, p, -1}
}

// passes reports whether an edge passes the points at a height; a level one passes none.
func (e edge) passes(y int) bool { return e.low.Y <= y && y < e.high.Y }

// at returns X of an edge at a height that it passes, rounded down: what is to the right of the one, in whole numbers, is also to the right of the other.
func (e edge) at(y int) int {
	return e.low.X + floor((e.high.X-e.low.X)*(y-e.low.Y), e.high.Y-e.low.Y)
}

// floor returns a / b, rounded down; b is positive.
func floor(a, b int) int {
	n := a / b
	if a%b < 0 {
		n--
	}
	return n
}
