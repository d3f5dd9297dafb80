package raster_test

import (
	"math/big"
	"slices"
	"testing"

	"indelible/api"
	"indelible/raster"
)

// picture returns the picture with given rows, the highest one first.
func picture(left, low int, rows ...string) api.Picture {
	p := api.Picture{Left: left, Low: low, Map: api.Bitmap{H: len(rows)}}
	for _, row := range slices.Backward(rows) {
		p.Map.W = len(row)
		for _, c := range row {
			p.Map.Dots = append(p.Map.Dots, c == '#')
		}
	}
	return p
}

// equal reports whether two pictures are equal, nil and empty being the same.
func equal(a, b api.Picture) bool {
	return a.Left == b.Left && a.Low == b.Low && a.Map.W == b.Map.W && a.Map.H == b.Map.H && slices.Equal(a.Map.Dots, b.Map.Dots)
}

// down returns a / b, rounded down.
func down(a, b int) int {
	// Div rounds such that the rest is not negative.
	return int(new(big.Int).Div(big.NewInt(int64(a)), big.NewInt(int64(b))).Int64())
}

// box returns the least and greatest coordinates of all points, in dots.
func box(l polygons, unit int) api.Rect {
	var xs, ys []int
	for _, c := range l {
		for _, p := range c {
			xs, ys = append(xs, down(p.X, unit)), append(ys, down(p.Y, unit))
		}
	}
	return api.Rect{X0: slices.Min(xs), Y0: slices.Min(ys), X1: slices.Max(xs), Y1: slices.Max(ys)}
}

// drawn returns what Dots promises.
func drawn(l polygons, unit int) (api.Picture, api.Errno) {
	if !isUnit(unit) {
		return api.Picture{}, api.ErrArg
	}
	if !inRange(l) {
		return api.Picture{}, api.ErrRange
	}
	if len(slices.Concat(l...)) == 0 {
		return api.Picture{}, api.OK
	}
	r := box(l, unit)
	if r.X1-r.X0 > 95 || r.Y1-r.Y0 > 95 {
		return api.Picture{}, api.ErrSize
	}
	p := api.Picture{Left: r.X0, Low: r.Y0, Map: api.Bitmap{W: r.X1 - r.X0 + 1, H: r.Y1 - r.Y0 + 1}}
	for y := r.Y0; y <= r.Y1; y++ {
		for x := r.X0; x <= r.X1; x++ {
			p.Map.Dots = append(p.Map.Dots, raster.Cover(l, unit, x, y) >= 2)
		}
	}
	return p, api.OK
}

func checkDots(t *testing.T, l polygons, unit int) {
	t.Helper()
	want, wantErrno := drawn(l, unit)
	checkPicture(t, l, unit, want, wantErrno)
}

func checkPicture(t *testing.T, l polygons, unit int, want api.Picture, wantErrno api.Errno) {
	t.Helper()
	if got, errno := raster.Dots(l, unit); errno != wantErrno || !equal(got, want) {
		t.Errorf("Dots(%v, %d) = %v, %v; want %v, %v", l, unit, got, errno, want, wantErrno)
	}
}

// P7.3
func TestExamplesOfDots(t *testing.T) {
	s := polygons{square()}
	for _, x := range []struct {
		l    polygons
		unit int
		want api.Picture
	}{
		{s, 4, picture(0, 0, "...", "##.", "##.")},
		{s, 16, picture(0, 0, ".")},
		{polygons{points(0, 0, 16, 0, 0, 16)}, 8, picture(0, 0, "...", "#..", "##.")},
		{s, 8, picture(0, 0, "..", "#.")},
		{moved(s, -8, -8), 8, picture(-1, -1, "..", "#.")},
		{moved(s, -8, -8), 16, picture(-1, -1, "..", "..")},
		{moved(s, -9, 3), 4, picture(-3, 0, ".##", ".##", ".##")},
		{moved(s, -3, -5), 4, picture(-1, -2, ".#.", "###", ".#.")},
		{polygons{square(), moved(s, 12, 4)[0]}, 4, picture(0, 0, "......", "...##.", "##.##.", "##....")},
		{polygons{rectangle(0, 0, 12, 12), reversed(rectangle(4, 4, 8, 8))}, 4, picture(0, 0, "....", "###.", "#.#.", "###.")},
		{polygons{rectangle(0, 0, 12, 12), rectangle(4, 4, 8, 8)}, 4, picture(0, 0, "....", "###.", "###.", "###.")},
		{polygons{rectangle(-1, -1, 0, 0)}, 4, picture(-1, -1, "..", "..")},
		{polygons{rectangle(-1, -1, 3, 3)}, 4, picture(-1, -1, ".#", ".#")},
		{polygons{rectangle(-2, -2, -1, -1)}, 4, picture(-1, -1, ".")},
		{polygons{rectangle(-4, -4, -1, -1)}, 4, picture(-1, -1, "#")},
	} {
		checkPicture(t, x.l, x.unit, x.want, api.OK)
		checkDots(t, x.l, x.unit)
	}
}

// P7.3: dots with each number of samples inside; it is set from two on.
func TestDotsWithSomeSamplesInside(t *testing.T) {
	for _, x := range []struct {
		l     polygons
		count int
		want  string
	}{
		{polygons{rectangle(0, 0, 1, 1)}, 0, "."},
		{polygons{rectangle(0, 0, 1, 2)}, 1, "."},
		{polygons{rectangle(1, 1, 3, 3)}, 1, "."},
		{polygons{rectangle(0, 0, 2, 3)}, 1, "."},
		{polygons{rectangle(0, 0, 2, 2), rectangle(2, 2, 3, 3)}, 1, "."},
		{polygons{rectangle(0, 0, 2, 2), rectangle(2, 3, 3, 3)}, 1, "."},
		{polygons{rectangle(0, 0, 3, 3)}, 2, "#"},
		{polygons{rectangle(0, 1, 3, 3)}, 2, "#"},
		{polygons{points(0, 0, 3, 0, 3, 3)}, 1, "."},
		{polygons{rectangle(0, 0, 1, 3), rectangle(2, 0, 3, 3)}, 2, "#"},
	} {
		if got := raster.Cover(x.l, 4, 0, 0); got != x.count {
			t.Errorf("Cover(%v, 4, 0, 0) = %d; want %d", x.l, got, x.count)
		}
		checkPicture(t, x.l, 4, picture(0, 0, x.want), api.OK)
	}
	for _, x := range []struct {
		l     polygons
		count int
		want  bool
	}{
		{polygons{rectangle(0, 0, 1, 4)}, 2, true},
		{polygons{rectangle(0, 2, 4, 4)}, 2, true},
		{polygons{rectangle(0, 0, 1, 2), rectangle(2, 2, 3, 4)}, 2, true},
		{polygons{rectangle(0, 0, 1, 4), rectangle(2, 2, 3, 4)}, 3, true},
		{polygons{rectangle(0, 0, 4, 4)}, 4, true},
		{polygons{rectangle(0, 3, 2, 4)}, 1, false},
		{polygons{rectangle(1, 0, 3, 1)}, 0, false},
		{polygons{rectangle(0, 2, 4, 3)}, 0, false},
	} {
		if got := raster.Cover(x.l, 4, 0, 0); got != x.count {
			t.Errorf("Cover(%v, 4, 0, 0) = %d; want %d", x.l, got, x.count)
		}
		if p, errno := raster.Dots(x.l, 4); errno != api.OK || p.Map.Dots[0] != x.want {
			t.Errorf("Dots(%v, 4) = %v, %v", x.l, p, errno)
		}
		checkDots(t, x.l, 4)
	}
}

// P7.3: polygons without points have the zero picture; a point has one dot.
func TestDotsOfFewPoints(t *testing.T) {
	for _, l := range []polygons{nil, {}, {nil}, {{}, {}, nil}} {
		for _, unit := range []int{4, 8, far - 4, far} {
			checkPicture(t, l, unit, api.Picture{}, api.OK)
		}
		for _, unit := range notUnits {
			checkPicture(t, l, unit, api.Picture{}, api.ErrArg)
		}
	}
	for _, x := range []struct {
		l    polygons
		unit int
		want api.Picture
	}{
		{polygons{points(0, 0)}, 4, picture(0, 0, ".")},
		{polygons{points(3, 4)}, 4, picture(0, 1, ".")},
		{polygons{points(-1, -4)}, 4, picture(-1, -1, ".")},
		{polygons{points(-5, -8)}, 4, picture(-2, -2, ".")},
		{polygons{nil, points(-1, 7), {}}, 8, picture(-1, 0, ".")},
		{polygons{points(far, -far)}, 4, picture(far/4, -far/4, ".")},
		{polygons{points(far, -far)}, far, picture(1, -1, ".")},
		{polygons{points(-far+1, far-1)}, far, picture(-1, 0, ".")},
		{polygons{points(far, -far)}, far - 4, picture(1, -2, ".")},
		{polygons{points(0, 0, 8, 4)}, 4, picture(0, 0, "...", "...")},
		{polygons{points(0, 0), points(-4, 9)}, 4, picture(-1, 0, "..", "..", "..")},
		{polygons{points(0, 0, 3, 3, 0, 0, 3, 3)}, 4, picture(0, 0, ".")},
	} {
		checkPicture(t, x.l, x.unit, x.want, api.OK)
	}
}

// P7.3
func TestDots(t *testing.T) {
	r := newSource(76)
	set := 0
	for range 6000 {
		l := r.polygons(-100, 100)
		if r.IntN(2) == 0 {
			l = moved(l, r.between(-1000, 1000), r.between(-1000, 1000))
		}
		unit := 4 * r.between(1, 12)
		checkDots(t, l, unit)
		p, _ := raster.Dots(l, unit)
		if slices.Contains(p.Map.Dots, true) {
			set++
		}
	}
	if set < 2000 {
		t.Errorf("only %d pictures had dots", set)
	}
}

// P7.3: small polygons in few dots, such that most edges pass through samples.
func TestDotsOfSmallPolygons(t *testing.T) {
	r := newSource(77)
	for range 20000 {
		checkDots(t, r.polygons(-9, 9), 4*r.between(1, 4))
	}
}

// P7.3, R5: large units, and polygons up to the ends of the range.
func TestDotsAtTheEndsOfTheRange(t *testing.T) {
	r := newSource(78)
	times := map[api.Errno]int{}
	for range 2000 {
		l := make(polygons, r.between(1, 3))
		for i := range l {
			for range r.between(1, 6) {
				l[i] = append(l[i], api.Point{X: r.extreme(), Y: r.extreme()})
			}
		}
		for _, unit := range []int{4, far / 64, 4 * r.between(1<<20, far/4), far - 4, far} {
			checkDots(t, l, unit)
			_, errno := raster.Dots(l, unit)
			times[errno]++
		}
	}
	if times[api.OK] < 3000 || times[api.ErrSize] < 1000 {
		t.Errorf("errors: %v", times)
	}
	checkPicture(t, polygons{rectangle(-far, -far, far, far)}, far, picture(-1, -1, "...", "##.", "##."), api.OK)
	checkPicture(t, polygons{rectangle(far-8, -far, far, 8-far)}, 4, picture(far/4-2, -far/4, "...", "##.", "##."), api.OK)
	checkPicture(t, polygons{rectangle(-far, far-9, 5-far, far)}, 12, picture(-far/12-1, far/12-1, "..", ".."), api.OK)
}

// P7.3: pictures of 96 columns or rows, and of 97.
func TestDotsOfTheGreatestSize(t *testing.T) {
	for _, unit := range []int{4, 32, 2048, 1 << 20} {
		for _, at := range []int{0, unit, -unit, -50 * unit, -96 * unit, -200*unit + 1, 7, -7, unit - 1} {
			first := down(at, unit)
			last := (first + 96) * unit
			for _, c := range [][]api.Point{
				rectangle(at, 0, last-1, unit), rectangle(0, at, unit, last-1), rectangle(at, at, last-1, last-1), points(at, at, last-1, last-1),
			} {
				p, errno := raster.Dots(polygons{c}, unit)
				if errno != api.OK || max(p.Map.W, p.Map.H) != 96 {
					t.Errorf("Dots(%v, %d) = %d by %d dots, %v", c, unit, p.Map.W, p.Map.H, errno)
				}
				checkDots(t, polygons{c}, unit)
			}
			for _, c := range [][]api.Point{
				rectangle(at, 0, last, unit), rectangle(0, at, unit, last), rectangle(at, at, last-1, last), rectangle(at, at, last, last-1), points(at, 0, last, 0), points(0, at, 0, last),
			} {
				checkPicture(t, polygons{c}, unit, api.Picture{}, api.ErrSize)
			}
			checkPicture(t, polygons{points(at, 0), nil, points(last, 0)}, unit, api.Picture{}, api.ErrSize)
		}
	}
	checkPicture(t, polygons{rectangle(-far, 0, far, 4)}, 4, api.Picture{}, api.ErrSize)
	checkPicture(t, polygons{rectangle(0, -far, 4, far)}, 4, api.Picture{}, api.ErrSize)
}

// P7.3: units that are not valid, and polygons that are not in range.
func TestDotsOfInvalidArguments(t *testing.T) {
	for _, unit := range notUnits {
		checkPicture(t, polygons{square()}, unit, api.Picture{}, api.ErrArg)
	}
	for _, n := range beyond {
		for i := range 2 {
			for k := range 4 {
				a, b := polygons{square(), square()}, polygons{square(), square()}
				a[i][k].X, b[i][k].Y = n, n
				checkPicture(t, a, 8, api.Picture{}, api.ErrRange)
				checkPicture(t, b, far, api.Picture{}, api.ErrRange)
			}
		}
	}
	for _, n := range []int{far, -far} {
		checkDots(t, polygons{points(n, n)}, 4)
		checkDots(t, polygons{square(), points(n, 0), points(0, n)}, far)
	}
}

// P7.3, R2: which of several errors comes first.
func TestOrderOfErrors(t *testing.T) {
	wide, outside := rectangle(0, 0, 1000, 4), points(0, 0, 8, far+1)
	for _, x := range []struct {
		l    polygons
		unit int
		want api.Errno
	}{
		{polygons{wide}, 6, api.ErrArg},
		{polygons{outside}, 6, api.ErrArg},
		{polygons{outside, wide}, 0, api.ErrArg},
		{nil, -4, api.ErrArg},
		{polygons{outside}, far + 4, api.ErrArg},
		{polygons{outside}, 4, api.ErrRange},
		{polygons{wide, outside}, 4, api.ErrRange},
		{polygons{outside, wide}, 4, api.ErrRange},
		{polygons{wide, nil, outside}, 4, api.ErrRange},
		{polygons{wide}, 4, api.ErrSize},
		{polygons{wide}, 12, api.OK},
	} {
		if p, errno := raster.Dots(x.l, x.unit); errno != x.want || errno != api.OK && !equal(p, api.Picture{}) {
			t.Errorf("Dots(%v, %d) = %v, %v; want %v", x.l, x.unit, p, errno, x.want)
		}
	}
}
