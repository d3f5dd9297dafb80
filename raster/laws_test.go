package raster_test

import (
	"slices"
	"testing"

	"indelible/api"
	"indelible/bitmap"
	"indelible/raster"
)

// number returns the winding number around a point, which it checks.
func number(t *testing.T, l polygons, x, y int) int {
	t.Helper()
	checkWinding(t, l, x, y)
	return raster.Winding(l, x, y)
}

// P7.4: winding numbers of polygons add up, each alone and in groups, in any order.
func TestWindingAddsUp(t *testing.T) {
	r := newSource(81)
	for range 5000 {
		l, m := r.solid(-8, 8), r.polygons(-8, 8)
		x, y := r.between(-9, 9), r.between(-9, 9)
		sum := 0
		for _, c := range l {
			sum += number(t, polygons{c}, x, y)
		}
		if got := number(t, l, x, y); got != sum {
			t.Errorf("%v around %d, %d: %d; one by one %d", l, x, y, got, sum)
		}
		both := slices.Concat(m, l)
		if got := number(t, both, x, y); got != sum+number(t, m, x, y) {
			t.Errorf("%v and %v around %d, %d: %d", l, m, x, y, got)
		}
		slices.Reverse(both)
		if got := number(t, both, x, y); got != sum+number(t, m, x, y) {
			t.Errorf("%v and %v in another order around %d, %d: %d", l, m, x, y, got)
		}
	}
}

// P7.4: the order of points turned round, and another first point.
func TestOrderOfPoints(t *testing.T) {
	r := newSource(82)
	for range 5000 {
		l := r.solid(-8, 8)
		x, y, unit := r.between(-9, 9), r.between(-9, 9), 4*r.between(1, 3)
		turned, begun := make(polygons, len(l)), make(polygons, len(l))
		for i, c := range l {
			turned[i] = reversed(c)
			if len(c) > 0 {
				k := r.IntN(len(c))
				begun[i] = slices.Concat(c[k:], c[:k])
			}
		}
		n := number(t, l, x, y)
		if got := number(t, turned, x, y); got != -n {
			t.Errorf("%v around %d, %d: %d; turned round %d", l, x, y, n, got)
		}
		if got := number(t, begun, x, y); got != n {
			t.Errorf("%v around %d, %d: %d; as %v %d", l, x, y, n, begun, got)
		}
		p, errno := raster.Dots(l, unit)
		checkPicture(t, turned, unit, p, errno)
		checkPicture(t, begun, unit, p, errno)
	}
}

// P7.4: a polygon that a line between two of its points divides.
func TestDividedPolygons(t *testing.T) {
	r := newSource(83)
	for range 10000 {
		l := r.solid(-8, 8)
		c := l[len(l)-1]
		j := r.IntN(len(c))
		i := r.IntN(j + 1)
		parts := polygons{c[i : j+1], slices.Concat(c[:i+1], c[j:])}
		x, y := r.between(-9, 9), r.between(-9, 9)
		whole := number(t, polygons{c}, x, y)
		if got := number(t, parts[:1], x, y) + number(t, parts[1:], x, y); got != whole {
			t.Errorf("%v around %d, %d: %d; divided at %d and %d %d", c, x, y, whole, i, j, got)
		}
		if got := number(t, parts, x, y); got != whole {
			t.Errorf("%v around %d, %d: %d; both parts %d", c, x, y, whole, got)
		}
	}
}

// P7.4: nothing is inside of polygons outside of the box of their points.
func TestOutsideOfTheBox(t *testing.T) {
	r := newSource(84)
	for range 1000 {
		l := r.solid(-30, 30)
		b, unit := box(l, 1), 4*r.between(1, 3)
		d := box(l, unit)
		for n := -45; n <= 45; n++ {
			for _, at := range [][2]int{{b.X0 - 1, n}, {b.X1 + 1, n}, {n, b.Y0 - 1}, {n, b.Y1 + 1}, {b.X0, n}, {n, b.Y1}, {b.X0 - 1000, n}, {far, n}, {n, -far}} {
				if got := raster.Winding(l, at[0], at[1]); got != 0 {
					t.Errorf("Winding(%v, %d, %d) = %d", l, at[0], at[1], got)
				}
			}
			for _, at := range [][2]int{{d.X0 - 1, n}, {d.X1 + 1, n}, {n, d.Y0 - 1}, {n, d.Y1 + 1}, {d.X1 + 50, n}} {
				if got := raster.Cover(l, unit, at[0], at[1]); got != 0 {
					t.Errorf("Cover(%v, %d, %d, %d) = %d", l, unit, at[0], at[1], got)
				}
			}
		}
	}
}

// P7.5: everything moved by whole dots.
func TestMovedPolygons(t *testing.T) {
	r := newSource(85)
	for round := range 5000 {
		l, unit := r.solid(-40, 40), 4*r.between(1, 8)
		x, y := r.between(-50, 50), r.between(-50, 50)
		if round%4 == 0 {
			x, y = (far-100)/unit, (100-far)/unit
		}
		want, errno := raster.Dots(l, unit)
		if errno != api.OK {
			t.Fatalf("Dots(%v, %d) = %v", l, unit, errno)
		}
		want.Left, want.Low = want.Left+x, want.Low+y
		checkPicture(t, moved(l, x*unit, y*unit), unit, want, api.OK)
		dx, dy := r.between(-5, 5), r.between(-5, 5)
		if a, b := raster.Cover(l, unit, dx, dy), raster.Cover(moved(l, x*unit, y*unit), unit, dx+x, dy+y); a != b {
			t.Errorf("Cover(%v, %d, %d, %d) = %d; moved by %d, %d dots %d", l, unit, dx, dy, a, x, y, b)
		}
	}
}

// P7.5: coordinates and unit multiplied by the same number, up to the ends of the range.
func TestScaledPolygons(t *testing.T) {
	r := newSource(86)
	for range 5000 {
		l, unit := r.solid(-40, 40), 4*r.between(1, 8)
		want, errno := raster.Dots(l, unit)
		if errno != api.OK {
			t.Fatalf("Dots(%v, %d) = %v", l, unit, errno)
		}
		for _, n := range []int{1, 2, 3, 7, 64, 1000, far / 64, far / 40} {
			checkPicture(t, scaled(l, n), n*unit, want, api.OK)
		}
	}
	for range 500 {
		l := r.solid(-400, 400)
		want, errno := raster.Dots(l, 4)
		checkPicture(t, scaled(l, far/400), far/400*4, want, errno)
	}
}

// roomy returns a copy that has room behind the ends of its slices.
func roomy(l polygons) polygons {
	all := make(polygons, len(l), len(l)+2)
	for i, c := range l {
		all[i] = append(make([]api.Point, 0, len(c)+2), c...)
	}
	return all
}

// whole returns a copy, with what lies behind the ends of slices.
func whole(l polygons) polygons {
	var all polygons
	for _, c := range l[:cap(l)] {
		all = append(all, slices.Clone(c[:cap(c)]))
	}
	return all
}

func samePolygons(a, b polygons) bool {
	return slices.EqualFunc(a, b, func(c, d []api.Point) bool { return slices.Equal(c, d) })
}

// R3, R4: arguments stay as they are, even behind their ends; pictures have memory of their own, and come again.
func TestArgumentsAndResults(t *testing.T) {
	r := newSource(87)
	for round := range 3000 {
		l := roomy(r.polygons(-20, 20))
		if round%5 == 0 && len(l) > 0 {
			l[0] = append(l[0], api.Point{X: far + 1})
		}
		kept, unit := whole(l), 4*r.between(0, 4)
		x, y := r.between(-20, 20), r.between(-20, 20)
		n, k := raster.Winding(l, x, y), raster.Cover(l, unit, x/8, y/8)
		p, errno := raster.Dots(l, unit)
		first := api.Picture{Left: p.Left, Low: p.Low, Map: api.Bitmap{W: p.Map.W, H: p.Map.H, Dots: slices.Clone(p.Map.Dots)}}
		for i := range p.Map.Dots {
			p.Map.Dots[i] = !p.Map.Dots[i]
		}
		if !samePolygons(whole(l), kept) {
			t.Fatalf("the polygons %v were changed to %v", kept, whole(l))
		}
		checkPicture(t, l, unit, first, errno)
		if n != raster.Winding(l, x, y) || k != raster.Cover(l, unit, x/8, y/8) {
			t.Fatalf("calls with %v, %d, %d and %d do not return the same again", l, unit, x, y)
		}
	}
}

// P7.3, R1: bitmaps are well-formed, and nil polygons and empty ones the same.
func TestNilAndEmpty(t *testing.T) {
	r := newSource(88)
	for range 2000 {
		l := r.polygons(-20, 20)
		other := make(polygons, len(l))
		for i, c := range l {
			if len(c) > 0 {
				other[i] = c
			} else {
				other[i] = []api.Point{}
			}
		}
		p, errno := raster.Dots(l, 4)
		if bitmap.Check(p.Map) != api.OK {
			t.Errorf("Dots(%v, 4) = %v", l, p)
		}
		checkPicture(t, other, 4, p, errno)
		if a, b := raster.Winding(l, 3, 3), raster.Winding(other, 3, 3); a != b {
			t.Errorf("Winding(%v, 3, 3) = %d; %d", l, a, b)
		}
		if a, b := raster.Cover(l, 8, 0, 0), raster.Cover(other, 8, 0, 0); a != b {
			t.Errorf("Cover(%v, 8, 0, 0) = %d; %d", l, a, b)
		}
	}
}

// P1, R5: every function with arguments from everywhere.
func TestAllArguments(t *testing.T) {
	r := newSource(89)
	anywhere := func() int {
		switch r.IntN(4) {
		case 0:
			return beyond[r.IntN(len(beyond))]
		case 1:
			return r.extreme()
		case 2:
			return notUnits[r.IntN(len(notUnits))]
		}
		return r.between(-10, 10)
	}
	for range 20000 {
		l := make(polygons, r.IntN(3))
		for i := range l {
			for range r.IntN(4) {
				l[i] = append(l[i], api.Point{X: anywhere(), Y: anywhere()})
			}
		}
		x, y, unit := anywhere(), anywhere(), anywhere()
		checkWinding(t, l, x, y)
		checkCover(t, l, unit, x, y)
		checkDots(t, l, unit)
	}
}

// R5: a polygon with many points, in the greatest picture.
func TestManyPoints(t *testing.T) {
	r := newSource(90)
	c := make([]api.Point, 200000)
	for k := range c {
		c[k] = api.Point{X: r.between(0, 383), Y: r.between(0, 383)}
	}
	l := append(slices.Repeat(polygons{nil, points(1, 1)}, 100000), c)
	p, errno := raster.Dots(l, 4)
	if errno != api.OK || p.Map.W != 96 || p.Map.H != 96 {
		t.Fatalf("%d by %d dots, %v", p.Map.W, p.Map.H, errno)
	}
	for range 40 {
		x, y := r.IntN(96), r.IntN(96)
		if got := raster.Cover(l, 4, x, y) >= 2; got != bitmap.Get(p.Map, x, y) {
			t.Errorf("the dot %d, %d is not %v", x, y, got)
		}
	}
}

// BenchmarkDots draws what is about a letter.
func BenchmarkDots(b *testing.B) {
	r := newSource(91)
	c := make([]api.Point, 200)
	for k := range c {
		c[k] = api.Point{X: r.between(0, 2048*20), Y: r.between(0, 2048*20)}
	}
	for b.Loop() {
		raster.Dots(polygons{c}, 2048)
	}
}
