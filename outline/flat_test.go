package outline_test

import (
	"math/big"
	"slices"
	"testing"

	"indelible/api"
	"indelible/outline"
)

// vector is a point of the plane with exact coordinates.
type vector [2]*big.Rat

func exactly(p api.Point) vector { return vector{big.NewRat(int64(p.X), 1), big.NewRat(int64(p.Y), 1)} }

// between returns the point at a part of the way from a to b.
func between(a, b vector, part *big.Rat) vector {
	var v vector
	for i := range v {
		way := new(big.Rat).Sub(b[i], a[i])
		v[i] = way.Add(way.Mul(way, part), a[i])
	}
	return v
}

// node is a point of a contour, in which no two points off the curve follow each other.
type node struct {
	at    vector
	curve bool
}

// nodes returns the points of a contour, with the middle of any two points off the curve between them.
func nodes(c []api.Point) []node {
	var l []node
	for k, p := range c {
		n := node{exactly(p), p.On || k == 0}
		if k > 0 && !n.curve && !l[len(l)-1].curve {
			l = append(l, node{between(l[len(l)-1].at, n.at, big.NewRat(1, 2)), true})
		}
		l = append(l, n)
	}
	return l
}

// lifted returns a point as one of a polygon, at 32 times its units.
func lifted(t *testing.T, v vector) api.Point {
	t.Helper()
	var n [2]int
	for i := range n {
		x := new(big.Rat).Mul(v[i], big.NewRat(32, 1))
		if !x.IsInt() {
			t.Fatalf("%v at 32 times its units is not in whole numbers", v)
		}
		n[i] = wrapped(x.Num())
	}
	return on(n[0], n[1])
}

// flattened returns the polygon of a contour: each curve is divided by the construction of de Casteljau.
func flattened(t *testing.T, c []api.Point) []api.Point {
	var polygon []api.Point
	l := nodes(c)
	for k, n := range l {
		if n.curve {
			polygon = append(polygon, lifted(t, n.at))
			continue
		}
		a, b := l[k-1].at, l[(k+1)%len(l)].at
		for i := range int64(3) {
			part := big.NewRat(i+1, 4)
			polygon = append(polygon, lifted(t, between(between(a, n.at, part), between(n.at, b, part), part)))
		}
	}
	return polygon
}

func checkFlat(t *testing.T, o contours) {
	t.Helper()
	var want contours
	for _, c := range o {
		want = append(want, flattened(t, c))
	}
	if got := outline.Flat(o); !equal(got, want) {
		t.Errorf("Flat(%v) = %v; want %v", o, got, want)
	}
}

// P6.5: the example, points off the curve that follow each other, the last point off the curve, and short contours.
func TestFlat(t *testing.T) {
	for _, x := range []struct {
		c, want []api.Point
	}{
		{arch()[0], []api.Point{on(0, 0), on(64, 96), on(128, 128), on(192, 96), on(256, 0)}},
		{nil, nil},
		{[]api.Point{on(3, -5)}, []api.Point{on(96, -160)}},
		{[]api.Point{off(3, -5)}, []api.Point{on(96, -160)}},
		{[]api.Point{on(1, 2), on(3, 4)}, []api.Point{on(32, 64), on(96, 128)}},
		{[]api.Point{on(0, 0), off(8, 0)}, []api.Point{on(0, 0), on(96, 0), on(128, 0), on(96, 0)}},
		{[]api.Point{off(0, 0), off(8, 0)}, []api.Point{on(0, 0), on(96, 0), on(128, 0), on(96, 0)}},
		{[]api.Point{on(0, 0), on(8, 0), off(0, 8)}, []api.Point{on(0, 0), on(256, 0), on(144, 96), on(64, 128), on(16, 96)}},
		{[]api.Point{on(0, 0), off(1, 0), off(2, 1)}, []api.Point{
			on(0, 0), on(15, 1), on(28, 4), on(39, 9), on(48, 16), on(51, 21), on(44, 20), on(27, 13),
		}},
		{[]api.Point{off(0, 0), off(1, 0), off(2, 1), on(3, 1)}, []api.Point{
			on(0, 0), on(15, 1), on(28, 4), on(39, 9), on(48, 16), on(57, 23), on(68, 28), on(81, 31), on(96, 32),
		}},
	} {
		if got := outline.Flat(contours{x.c}); !equal(got, contours{x.want}) {
			t.Errorf("Flat of %v is %v; want %v", x.c, got, x.want)
		}
	}
}

// P6.5: each contour has a polygon, in order, that depends on no other contour.
func TestFlatOfContours(t *testing.T) {
	for _, o := range []contours{nil, {}, {nil}, {{}, nil, {}}} {
		got := outline.Flat(o)
		if len(got) != len(o) || outline.Count(got) != 0 {
			t.Errorf("Flat(%v) = %v", o, got)
		}
	}
	r := newSource(64)
	for range 2000 {
		o := r.outline(40, false)
		got := outline.Flat(o)
		if len(got) != len(o) {
			t.Fatalf("Flat(%v) has %d polygons", o, len(got))
		}
		for i, c := range o {
			if alone := outline.Flat(contours{c}); !slices.Equal(alone[0], got[i]) {
				t.Errorf("Flat(%v) has the polygon %v; alone it is %v", o, got[i], alone[0])
			}
		}
	}
}

// P6.5: contours of up to 6 points with all choices of points that have On, in range and wrapping around.
func TestFlatOfAllKinds(t *testing.T) {
	r := newSource(65)
	for n := range 7 {
		for kind := range 1 << n {
			for round := range 12 {
				c := make([]api.Point, n)
				for k := range c {
					c[k] = r.point(512, round%2 == 1)
					c[k].On = kind>>k&1 == 1
				}
				checkFlat(t, contours{c})
			}
		}
	}
}

// P6.5
func TestFlatOfLongContours(t *testing.T) {
	r := newSource(66)
	for range 300 {
		c := make([]api.Point, 20+r.IntN(200))
		for k := range c {
			c[k] = r.point(10000, false)
		}
		checkFlat(t, contours{c})
	}
}
