package raster_test

import (
	"math"
	"math/big"
	"math/rand/v2"
	"slices"
	"testing"

	"indelible/api"
	"indelible/raster"
)

type polygons = [][]api.Point

// far is the greatest number in range.
const far = 1 << 30

// beyond are numbers that are not in range.
var beyond = []int{far + 1, -far - 1, far + 2, 1 << 31, -1 << 31, 1 << 32, -1 << 32, 1<<32 + 1, 1 << 62, -1 << 62, math.MaxInt, math.MaxInt - 3, math.MinInt, math.MinInt + 4}

// points returns a polygon, of which two numbers each are a point.
func points(numbers ...int) []api.Point {
	var c []api.Point
	for k := 0; k < len(numbers); k += 2 {
		c = append(c, api.Point{X: numbers[k], Y: numbers[k+1], On: true})
	}
	return c
}

// rectangle returns the corners of a rectangle, counterclockwise.
func rectangle(x0, y0, x1, y1 int) []api.Point { return points(x0, y0, x1, y0, x1, y1, x0, y1) }

// square is the polygon of the document's examples.
func square() []api.Point { return rectangle(0, 0, 8, 8) }

func reversed(c []api.Point) []api.Point {
	d := slices.Clone(c)
	slices.Reverse(d)
	return d
}

// mapped returns polygons with other points.
func mapped(l polygons, f func(p api.Point) api.Point) polygons {
	m := make(polygons, len(l))
	for i, c := range l {
		for _, p := range c {
			m[i] = append(m[i], f(p))
		}
	}
	return m
}

func moved(l polygons, x, y int) polygons {
	return mapped(l, func(p api.Point) api.Point { return api.Point{X: p.X + x, Y: p.Y + y, On: p.On} })
}

func scaled(l polygons, n int) polygons {
	return mapped(l, func(p api.Point) api.Point { return api.Point{X: n * p.X, Y: n * p.Y, On: p.On} })
}

// source makes arguments, always the same ones for a seed.
type source struct{ *rand.Rand }

func newSource(seed uint64) source { return source{rand.New(rand.NewPCG(seed, 7))} }

// between returns a number from a to b.
func (r source) between(a, b int) int { return a + r.IntN(b-a+1) }

// polygons returns up to four polygons of up to six points, with coordinates from a to b.
func (r source) polygons(a, b int) polygons {
	l := make(polygons, r.IntN(5))
	for i := range l {
		for range r.IntN(7) {
			l[i] = append(l[i], api.Point{X: r.between(a, b), Y: r.between(a, b), On: r.IntN(2) == 0})
		}
	}
	return l
}

// solid returns polygons that have points.
func (r source) solid(a, b int) polygons {
	l := append(r.polygons(a, b), nil)
	for range r.between(3, 7) {
		l[len(l)-1] = append(l[len(l)-1], api.Point{X: r.between(a, b), Y: r.between(a, b)})
	}
	return l
}

// extreme returns a number in range that is often at its ends.
func (r source) extreme() int {
	switch r.IntN(4) {
	case 0:
		return -far + r.IntN(4)
	case 1:
		return far - r.IntN(4)
	case 2:
		return r.between(-3, 3)
	}
	return r.between(-far, far)
}

// xAt returns X of the edge from p to q at the height y, without bounds and without rounding.
func xAt(p, q api.Point, y int) *big.Rat {
	whole := func(n int) *big.Rat { return new(big.Rat).SetInt64(int64(n)) }
	way := new(big.Rat).Quo(whole(y-p.Y), whole(q.Y-p.Y))
	way.Mul(way, whole(q.X-p.X))
	return way.Add(way, whole(p.X))
}

func inRange(l polygons, more ...int) bool {
	for _, c := range l {
		for _, p := range c {
			more = append(more, p.X, p.Y)
		}
	}
	for _, n := range more {
		if n < -far || n > far {
			return false
		}
	}
	return true
}

// passed returns the edges that pass a point upwards, minus those downwards: on the left, and elsewhere.
func passed(l polygons, x, y int) (int, int) {
	left, elsewhere := 0, 0
	for _, c := range l {
		for k, p := range c {
			q, way := c[(k+1)%len(c)], 0
			if p.Y <= y && y < q.Y {
				way = 1
			} else if q.Y <= y && y < p.Y {
				way = -1
			} else {
				continue
			}
			if xAt(p, q, y).Cmp(new(big.Rat).SetInt64(int64(x))) < 0 {
				left += way
			} else {
				elsewhere += way
			}
		}
	}
	return left, elsewhere
}

// checkWinding compares Winding with its contract, on both sides of the point.
func checkWinding(t *testing.T, l polygons, x, y int) {
	t.Helper()
	want, elsewhere := 0, 0
	if inRange(l, x, y) {
		want, elsewhere = passed(l, x, y)
	}
	if got := raster.Winding(l, x, y); got != want || got != -elsewhere {
		t.Errorf("Winding(%v, %d, %d) = %d; want %d; on the other side there is %d", l, x, y, got, want, elsewhere)
	}
}

// P7.1
func TestExamplesOfWinding(t *testing.T) {
	s, turned := square(), reversed(square())
	for _, x := range []struct {
		l          polygons
		x, y, want int
	}{
		{polygons{s}, 4, 4, -1},
		{polygons{s}, 0, 4, 0},
		{polygons{s}, 8, 4, -1},
		{polygons{s}, 4, 0, -1},
		{polygons{s}, 4, 8, 0},
		{polygons{turned}, 4, 4, 1},
		{polygons{s, turned}, 4, 4, 0},
		{polygons{s}, 4, far + 1, 0},
		{polygons{s, s}, 4, 4, -2},
		{polygons{turned, turned, turned}, 1, 7, 3},
		{polygons{s, nil, turned, {}, turned}, 8, 0, 1},
		{polygons{append(square(), square()...)}, 4, 4, -2},
	} {
		if got := raster.Winding(x.l, x.x, x.y); got != x.want {
			t.Errorf("Winding(%v, %d, %d) = %d; want %d", x.l, x.x, x.y, got, x.want)
		}
	}
}

// P7.1: the corners and the sides of the square, and the points beside them. A point belongs to the right side and to the lower one.
func TestWindingOnCornersAndSides(t *testing.T) {
	for x := -2; x <= 10; x++ {
		for y := -2; y <= 10; y++ {
			want := 0
			if x > 0 && x <= 8 && y >= 0 && y < 8 {
				want = 1
			}
			if got := raster.Winding(polygons{square()}, x, y); got != -want {
				t.Errorf("Winding around %d, %d = %d; want %d", x, y, got, -want)
			}
			if got := raster.Winding(polygons{reversed(square())}, x, y); got != want {
				t.Errorf("Winding the other way around %d, %d = %d; want %d", x, y, got, want)
			}
		}
	}
}

// P7.1: points on slanted edges, which do not have them on the left, and just beside them.
func TestWindingOnSlantedEdges(t *testing.T) {
	rising := polygons{points(0, 0, 9, 3, 0, 3)}
	falling := polygons{points(0, 0, -9, 3, 0, 3)}
	for _, x := range []struct {
		l          polygons
		x, y, want int
	}{
		{rising, 3, 1, -1}, {rising, 4, 1, 0}, {rising, 6, 2, -1}, {rising, 7, 2, 0}, {rising, 1, 1, -1}, {rising, 0, 1, 0}, {rising, 0, 0, 0}, {rising, 9, 3, 0}, {rising, 1, 0, 0},
		{falling, -3, 1, 0}, {falling, -2, 1, 1}, {falling, -6, 2, 0}, {falling, -5, 2, 1}, {falling, 0, 1, 1}, {falling, 1, 1, 0}, {falling, 0, 0, 0}, {falling, -9, 3, 0}, {falling, -4, 1, 0},
	} {
		if got := raster.Winding(x.l, x.x, x.y); got != x.want {
			t.Errorf("Winding(%v, %d, %d) = %d; want %d", x.l, x.x, x.y, got, x.want)
		}
	}
}

// P7.1: no polygons, and polygons without points, with one or with two, which enclose nothing.
func TestWindingOfFewPoints(t *testing.T) {
	for _, l := range []polygons{
		nil, {}, {nil}, {{}, nil}, {points(1, 1)}, {points(-1, 0), {}}, {points(0, -2, 0, 2)}, {points(0, 2, 0, -2)}, {points(-2, -2, 2, 2)}, {points(-2, 0, 2, 0)}, {points(1, 1, 1, 1)}, {points(0, -2, 1, 2), points(0, 0), nil},
	} {
		for x := -3; x <= 3; x++ {
			for y := -3; y <= 3; y++ {
				if got := raster.Winding(l, x, y); got != 0 {
					t.Errorf("Winding(%v, %d, %d) = %d", l, x, y, got)
				}
			}
		}
	}
}

// P7.1: all triangles with corners on a grid, around all its points and those beside them.
func TestWindingOfAllTriangles(t *testing.T) {
	const side = 4
	place := func(n int) (int, int) { return n % side, n / side }
	for n := range side * side * side * side * side * side {
		ax, ay := place(n % 16)
		bx, by := place(n / 16 % 16)
		cx, cy := place(n / 256)
		l := polygons{points(ax, ay, bx, by, cx, cy)}
		for x := -1; x <= side; x++ {
			for y := -1; y <= side; y++ {
				checkWinding(t, l, x, y)
			}
		}
	}
}

// P7.1: polygons that cross themselves and each other, with many points on edges and corners.
func TestWinding(t *testing.T) {
	r := newSource(71)
	times := map[int]int{}
	for range 20000 {
		l := r.polygons(-6, 6)
		x, y := r.between(-7, 7), r.between(-7, 7)
		checkWinding(t, l, x, y)
		times[raster.Winding(l, x, y)]++
	}
	for n := -2; n <= 2; n++ {
		if times[n] < 30 {
			t.Errorf("the number %d came %d times", n, times[n])
		}
	}
}

// P7.1, R5: numbers at the ends of the range, whose products are large.
func TestWindingAtTheEndsOfTheRange(t *testing.T) {
	r := newSource(72)
	inside := 0
	for range 30000 {
		l := make(polygons, r.between(1, 3))
		for i := range l {
			for range r.between(2, 6) {
				l[i] = append(l[i], api.Point{X: r.extreme(), Y: r.extreme()})
			}
		}
		x, y := r.extreme(), r.extreme()
		checkWinding(t, l, x, y)
		if raster.Winding(l, x, y) != 0 {
			inside++
		}
	}
	if inside < 3000 {
		t.Errorf("only %d points were inside", inside)
	}
	all := polygons{rectangle(-far, -far, far, far)}
	for _, x := range []struct{ x, y, want int }{
		{far, far - 1, -1}, {far, -far, -1}, {-far + 1, -far, -1}, {-far + 1, far - 1, -1}, {-far, 0, 0}, {0, far, 0}, {0, 0, -1}, {far, far, 0},
	} {
		if got := raster.Winding(all, x.x, x.y); got != x.want {
			t.Errorf("Winding of the whole range around %d, %d = %d; want %d", x.x, x.y, got, x.want)
		}
	}
	slanted := polygons{points(-far, -far, far, far, -far, far)}
	for _, x := range []struct{ x, y, want int }{
		{far - 1, far - 1, -1}, {far, far - 1, 0}, {-far + 1, -far + 1, -1}, {-far + 2, -far + 1, 0}, {5, 5, -1}, {6, 5, 0},
	} {
		if got := raster.Winding(slanted, x.x, x.y); got != x.want {
			t.Errorf("Winding of half the range around %d, %d = %d; want %d", x.x, x.y, got, x.want)
		}
	}
}

// P7.1: each coordinate of each point, and of the point in the middle, at the ends of the range and beyond.
func TestWindingOutOfRange(t *testing.T) {
	all := polygons{rectangle(-far, -far, far, far)}
	for _, n := range append([]int{far, -far, far - 1, 1 - far}, beyond...) {
		for i := range 3 {
			for k := range 4 {
				a, b := polygons{square(), square(), square()}, polygons{square(), square(), square()}
				a[i][k].X, b[i][k].Y = n, n
				checkWinding(t, a, 4, 4)
				checkWinding(t, b, 4, 4)
			}
		}
		checkWinding(t, polygons{square(), points(n, 0)}, 4, 4)
		checkWinding(t, polygons{square(), nil, points(0, n)}, 4, 4)
		checkWinding(t, all, n, 4)
		checkWinding(t, all, 4, n)
		checkWinding(t, all, n, n)
	}
	for _, n := range beyond {
		if raster.Winding(polygons{square(), points(n, 0)}, 4, 4) != 0 || raster.Winding(all, n, 4) != 0 || raster.Winding(all, 4, n) != 0 {
			t.Errorf("Winding with %d", n)
		}
	}
}

// Words: On plays no part.
func TestPointsOffTheCurve(t *testing.T) {
	r := newSource(73)
	for range 3000 {
		l := r.solid(-20, 20)
		other := mapped(l, func(p api.Point) api.Point { return api.Point{X: p.X, Y: p.Y, On: r.IntN(2) == 0} })
		x, y := r.between(-20, 20), r.between(-20, 20)
		if a, b := raster.Winding(l, x, y), raster.Winding(other, x, y); a != b {
			t.Errorf("Winding(%v, %d, %d) = %d; with other On %d", l, x, y, a, b)
		}
		if a, b := raster.Cover(l, 8, x/8, y/8), raster.Cover(other, 8, x/8, y/8); a != b {
			t.Errorf("Cover(%v, 8, %d, %d) = %d; with other On %d", l, x/8, y/8, a, b)
		}
		checkDots(t, l, 8)
		a, _ := raster.Dots(l, 8)
		if b, errno := raster.Dots(other, 8); errno != api.OK || !equal(a, b) {
			t.Errorf("Dots(%v, 8) = %v; with other On %v, %v", l, a, b, errno)
		}
	}
}
