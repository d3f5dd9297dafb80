package raster_test

import (
	"math"
	"testing"

	"indelible/api"
	"indelible/raster"
)

// notUnits are units that are not valid.
var notUnits = []int{0, 1, 2, 3, 5, 6, 7, 10, 31, 33, 34, -1, -4, -8, -64, far + 4, far + 1, far - 1, far - 2, 1 << 31, 1 << 32, math.MaxInt, math.MaxInt - 3, math.MinInt, -far}

func isUnit(n int) bool { return n >= 4 && n <= far && n%4 == 0 }

// covered returns what Cover promises.
func covered(l polygons, unit, x, y int) int {
	if !isUnit(unit) || !inRange(nil, x, y) {
		return 0
	}
	n := 0
	for _, s := range []int{unit / 4, unit - unit/4} {
		for _, t := range []int{unit / 4, unit - unit/4} {
			if raster.Winding(l, unit*x+s, unit*y+t) != 0 {
				n++
			}
		}
	}
	return n
}

func checkCover(t *testing.T, l polygons, unit, x, y int) {
	t.Helper()
	if got, want := raster.Cover(l, unit, x, y), covered(l, unit, x, y); got != want {
		t.Errorf("Cover(%v, %d, %d, %d) = %d; want %d", l, unit, x, y, got, want)
	}
}

// P7.2
func TestExamplesOfCover(t *testing.T) {
	s := polygons{square()}
	for _, x := range []struct {
		l                polygons
		unit, x, y, want int
	}{
		{s, 8, 0, 0, 4},
		{s, 8, 1, 0, 0},
		{s, 16, 0, 0, 1},
		{s, 6, 0, 0, 0},
		{s, 8, -1, 0, 0},
		{s, 8, 0, 1, 0},
		{s, 8, 0, -1, 0},
		{s, 4, 0, 0, 4},
		{s, 4, 1, 1, 4},
		{s, 4, 2, 1, 0},
		{s, 12, 0, 0, 1},
		{s, 12, 1, 0, 0},
		{s, 28, 0, 0, 1},
		{s, 32, 0, 0, 0},
		{s, 36, 0, 0, 0},
		{polygons{reversed(square())}, 8, 0, 0, 4},
		{polygons{square(), square()}, 8, 0, 0, 4},
		{polygons{square(), reversed(square())}, 8, 0, 0, 0},
		{polygons{rectangle(1, 2, 2, 3)}, 8, 0, 0, 1},
		{polygons{rectangle(1, 1, 2, 2)}, 8, 0, 0, 0},
		{polygons{rectangle(2, 1, 3, 3)}, 8, 0, 0, 0},
		{polygons{rectangle(0, 0, 1, 3)}, 4, 0, 0, 1},
		{polygons{rectangle(0, 0, 1, 4)}, 4, 0, 0, 2},
		{polygons{rectangle(0, 0, 3, 2)}, 4, 0, 0, 2},
		{polygons{rectangle(0, 0, 3, 4), rectangle(0, 0, 4, 2)}, 4, 0, 0, 4},
		{polygons{rectangle(0, 0, 1, 4), rectangle(1, 0, 4, 2)}, 4, 0, 0, 3},
		{polygons{rectangle(-8, -8, 0, 0)}, 8, -1, -1, 4},
		{polygons{rectangle(-8, -8, 0, 0)}, 16, -1, -1, 1},
		{nil, 8, 0, 0, 0},
		{polygons{nil, points(1, 1), points(0, 0, 8, 8)}, 8, 0, 0, 0},
		{polygons{square(), points(far+1, 0)}, 8, 0, 0, 0},
	} {
		if got := raster.Cover(x.l, x.unit, x.x, x.y); got != x.want {
			t.Errorf("Cover(%v, %d, %d, %d) = %d; want %d", x.l, x.unit, x.x, x.y, got, x.want)
		}
	}
}

// P7.2
func TestCover(t *testing.T) {
	r := newSource(74)
	times := map[int]int{}
	for range 20000 {
		l := r.polygons(-40, 40)
		unit := 4 * r.between(1, 6)
		x, y := r.between(-3, 3), r.between(-3, 3)
		checkCover(t, l, unit, x, y)
		times[raster.Cover(l, unit, x, y)]++
	}
	for n := range 5 {
		if times[n] < 100 {
			t.Errorf("%d samples were inside %d times", n, times[n])
		}
	}
}

// P7.2: units that are valid, up to the greatest one, and others.
func TestCoverOfUnits(t *testing.T) {
	all := polygons{rectangle(-far, -far, far, far)}
	for unit := -20; unit <= 400; unit++ {
		want := 0
		if unit > 0 && unit%4 == 0 {
			want = 4
		}
		if got := raster.Cover(all, unit, 3, -5); got != want {
			t.Errorf("Cover with the unit %d = %d; want %d", unit, got, want)
		}
	}
	for _, unit := range []int{4, 8, 1 << 20, far - 4, far} {
		if got := raster.Cover(all, unit, 0, -1); got != 4 {
			t.Errorf("Cover with the unit %d = %d", unit, got)
		}
	}
	for _, unit := range notUnits {
		if got := raster.Cover(all, unit, 0, 0); got != 0 {
			t.Errorf("Cover with the unit %d = %d", unit, got)
		}
	}
}

// P7.2: dots at the ends of the range and beyond it. Samples of large units are not in range, and none of them wraps around into it.
func TestCoverOfDotsFarAway(t *testing.T) {
	all := polygons{rectangle(-far, -far, far, far)}
	for _, x := range []struct{ unit, x, y, want int }{
		{far, 0, 0, 4}, {far, -1, -1, 4}, {far, 1, 0, 0}, {far, 0, 1, 0}, {far, -2, 0, 0}, {far, 0, -2, 0},
		{far, far, 0, 0}, {far, 0, far, 0}, {far, -far, -far, 0}, {4, far, 0, 0}, {4, 0, -far, 0},
		{4, far/4 - 1, far/4 - 1, 4}, {4, far / 4, 0, 0}, {4, 0, far / 4, 0}, {4, -far / 4, -far / 4, 4}, {4, -far/4 - 1, 0, 0}, {4, 0, -far/4 - 1, 0},
		{12, far / 12, 0, 2}, {12, 0, far / 12, 2}, {12, far / 12, far / 12, 1}, {12, -far/12 - 1, 0, 2},
		{far / 2, 1, 1, 4}, {far / 2, 2, 1, 0}, {far / 2, -2, -2, 4}, {far / 2, -3, -2, 0},
	} {
		if got := raster.Cover(all, x.unit, x.x, x.y); got != x.want {
			t.Errorf("Cover of the whole range with the unit %d, of %d, %d = %d; want %d", x.unit, x.x, x.y, got, x.want)
		}
	}
	for _, n := range beyond {
		for _, unit := range []int{4, 12, 1 << 20, far} {
			if raster.Cover(all, unit, n, 0) != 0 || raster.Cover(all, unit, 0, n) != 0 || raster.Cover(all, unit, n, n) != 0 {
				t.Errorf("Cover with the unit %d of a dot at %d", unit, n)
			}
		}
	}
	// 2^62 + 1 times 4 wraps around to 4.
	for _, x := range []int{1<<62 + 1, -1<<62 + 1} {
		if raster.Cover(all, 4, x, 0) != 0 || raster.Cover(all, 4, 0, x) != 0 {
			t.Errorf("Cover of a dot at %d", x)
		}
	}
}

// P7.2: polygons at the ends of the range and beyond it.
func TestCoverOfPolygonsFarAway(t *testing.T) {
	r := newSource(75)
	for range 5000 {
		l := make(polygons, r.between(1, 3))
		for i := range l {
			for range r.between(3, 6) {
				l[i] = append(l[i], api.Point{X: r.extreme(), Y: r.extreme()})
			}
		}
		for _, unit := range []int{4, 12, 1 << 20, far / 2, far - 4, far} {
			checkCover(t, l, unit, r.extreme()/unit, r.extreme()/unit-1)
		}
	}
	for _, n := range beyond {
		for k := range 4 {
			a, b := polygons{square(), square()}, polygons{square(), square()}
			a[1][k].X, b[1][k].Y = n, n
			if raster.Cover(a, 8, 0, 0) != 0 || raster.Cover(b, 8, 0, 0) != 0 {
				t.Errorf("Cover with the coordinate %d of the point %d", n, k)
			}
		}
	}
}
