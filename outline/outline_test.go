package outline_test

import (
	"math"
	"math/big"
	"math/rand/v2"
	"testing"

	"indelible/api"
	"indelible/outline"
)

type contours = [][]api.Point

func on(x, y int) api.Point { return api.Point{X: x, Y: y, On: true} }

func off(x, y int) api.Point { return api.Point{X: x, Y: y} }

// arch is the outline of the document's examples.
func arch() contours { return contours{{on(0, 0), off(4, 8), on(8, 0)}} }

// extremes are integers far beyond all limits.
var extremes = []int{math.MinInt, math.MinInt + 1, math.MinInt / 2, math.MinInt / 32, -1 << 59, -1 << 32, -514, -513,
	513, 514, 1 << 32, 1 << 58, math.MaxInt / 32, math.MaxInt / 2, math.MaxInt - 1, math.MaxInt}

// wrapped returns the int that has the same last 64 bits as n.
func wrapped(n *big.Int) int {
	return int(new(big.Int).And(n, new(big.Int).SetUint64(math.MaxUint64)).Uint64())
}

// equal compares outlines point by point.
func equal(a, b contours) bool {
	if len(a) != len(b) {
		return false
	}
	for i := range a {
		if len(a[i]) != len(b[i]) {
			return false
		}
		for k, p := range a[i] {
			if q := b[i][k]; p.X != q.X || p.Y != q.Y || p.On != q.On {
				return false
			}
		}
	}
	return true
}

// clone returns a copy that has room behind the ends of its contours.
func clone(o contours) contours {
	all := make(contours, len(o), len(o)+2)
	for i, c := range o {
		all[i] = append(make([]api.Point, 0, len(c)+2), c...)
	}
	return all
}

// row returns a contour of n points.
func row(n int) []api.Point {
	c := make([]api.Point, n)
	for k := range c {
		c[k] = on(k, -k)
	}
	return c
}

// rows returns contours with as many points as the numbers say.
func rows(numbers ...int) contours {
	var o contours
	for _, n := range numbers {
		o = append(o, row(n))
	}
	return o
}

// source makes arguments, always the same ones for a seed.
type source struct{ *rand.Rand }

func newSource(seed uint64) source { return source{rand.New(rand.NewPCG(seed, 6))} }

// number returns a coordinate up to a limit, or, now and then, an extreme one.
func (r source) number(limit int, wild bool) int {
	if wild && r.IntN(4) == 0 {
		return extremes[r.IntN(len(extremes))]
	}
	return r.IntN(2*limit+1) - limit
}

func (r source) point(limit int, wild bool) api.Point {
	return api.Point{X: r.number(limit, wild), Y: r.number(limit, wild), On: r.IntN(2) == 0}
}

// outline returns an outline whose contours may be short and begin with any point.
func (r source) outline(limit int, wild bool) contours {
	o := make(contours, r.IntN(4))
	for i := range o {
		for range r.IntN(7) {
			o[i] = append(o[i], r.point(limit, wild))
		}
	}
	return o
}

func checkCheck(t *testing.T, o contours, want api.Errno) {
	t.Helper()
	if got := outline.Check(o); got != want {
		t.Errorf("Check(%v) = %v; want %v", o, got, want)
	}
}

// P6.1: numbers of contours and points.
func TestCheckOfNumbers(t *testing.T) {
	for _, o := range []contours{
		nil, {}, rows(3), rows(3, 3), rows(3, 3, 3, 3, 3, 3, 3, 3), rows(64), rows(8, 8, 8, 8, 8, 8, 8, 8), rows(32, 32), rows(61, 3), rows(3, 61),
		arch(),
	} {
		checkCheck(t, o, api.OK)
	}
	for _, o := range []contours{
		rows(3, 3, 3, 3, 3, 3, 3, 3, 3), make(contours, 9), make(contours, 100000), rows(65), rows(1000), rows(33, 32), rows(62, 3), rows(3, 62), rows(8, 8, 8, 8, 8, 8, 8, 9), rows(0, 65), rows(1, 2, 62),
	} {
		checkCheck(t, o, api.ErrMany)
	}
	for _, o := range []contours{
		make(contours, 8), rows(0), rows(1), rows(2), rows(3, 0), rows(0, 3), rows(3, 2), rows(2, 3), rows(3, 1, 3), rows(62, 2), rows(2, 62), rows(63, 1), rows(64, 0), rows(3, 3, 3, 3, 3, 3, 3, 2),
	} {
		checkCheck(t, o, api.ErrContour)
	}
}

// P6.1: points on the curve and off it.
func TestCheckOfFirstPoints(t *testing.T) {
	checkCheck(t, contours{{on(0, 0), off(4, 8)}}, api.ErrContour)
	checkCheck(t, contours{{off(0, 0), off(4, 8), on(8, 0)}}, api.ErrContour)
	checkCheck(t, contours{{off(0, 0), on(4, 8), on(8, 0)}}, api.ErrContour)
	checkCheck(t, contours{{off(0, 0), off(4, 8), off(8, 0)}}, api.ErrContour)
	checkCheck(t, contours{{on(0, 0), off(4, 8), off(8, 0)}}, api.OK)
	checkCheck(t, contours{row(3), {off(0, 0), on(4, 8), on(8, 0)}}, api.ErrContour)
	checkCheck(t, contours{{off(0, 0), on(4, 8), on(8, 0)}, row(3)}, api.ErrContour)
	checkCheck(t, contours{{on(0, 0), on(0, 0), on(0, 0)}}, api.OK)
}

// P6.1: every coordinate of every point, at the limits and beyond.
func TestCheckOfCoordinates(t *testing.T) {
	for i, n := range []int{3, 5, 4} {
		for k := range n {
			for _, x := range append([]int{-512, -511, 0, 511, 512}, extremes...) {
				want := api.OK
				if x < -512 || x > 512 {
					want = api.ErrPoint
				}
				a, b := rows(3, 5, 4), rows(3, 5, 4)
				a[i][k].X, b[i][k].Y = x, x
				checkCheck(t, a, want)
				checkCheck(t, b, want)
				if k > 0 {
					a[i][k].On, b[i][k].On = false, false
					checkCheck(t, a, want)
					checkCheck(t, b, want)
				}
			}
		}
	}
}

// P6.1, R2: which of several errors comes first.
func TestCheckOrder(t *testing.T) {
	far, short, curved := row(3), row(2), row(3)
	far[2].X, curved[0].On = 513, false
	both := []api.Point{off(0, 0), on(513, 0), on(0, 0)}
	shortFar := []api.Point{on(0, 0), on(0, -513)}
	for _, x := range []struct {
		o    contours
		want api.Errno
	}{
		{contours{far, short}, api.ErrPoint},
		{contours{short, far}, api.ErrContour},
		{contours{far, curved}, api.ErrPoint},
		{contours{curved, far}, api.ErrContour},
		{contours{row(3), far, short}, api.ErrPoint},
		{contours{row(3), nil, far}, api.ErrContour},
		{contours{both}, api.ErrContour},
		{contours{shortFar}, api.ErrContour},
		{contours{row(60), shortFar, row(3)}, api.ErrMany},
		{contours{far, far, far, far, far, far, far, far, far}, api.ErrMany},
		{contours{short, curved, row(60)}, api.ErrMany},
	} {
		checkCheck(t, x.o, x.want)
	}
}

// P6.2: what the box and the number of points of an outline must be.
func checkPoints(t *testing.T, o contours) {
	t.Helper()
	n, box := 0, api.Rect{X0: math.MaxInt, Y0: math.MaxInt, X1: math.MinInt, Y1: math.MinInt}
	for _, c := range o {
		for _, p := range c {
			n++
			box = api.Rect{X0: min(box.X0, p.X), Y0: min(box.Y0, p.Y), X1: max(box.X1, p.X), Y1: max(box.Y1, p.Y)}
		}
	}
	if n == 0 {
		box = api.Rect{}
	}
	if got := outline.Count(o); got != n {
		t.Errorf("Count(%v) = %d; want %d", o, got, n)
	}
	if got := outline.Box(o); got != box {
		t.Errorf("Box(%v) = %v; want %v", o, got, box)
	}
}

// P6.2
func TestCountAndBox(t *testing.T) {
	for _, x := range []struct {
		o   contours
		n   int
		box api.Rect
	}{
		{arch(), 3, api.Rect{X0: 0, Y0: 0, X1: 8, Y1: 8}},
		{nil, 0, api.Rect{}},
		{contours{}, 0, api.Rect{}},
		{contours{nil, {}}, 0, api.Rect{}},
		{contours{{on(5, -7)}}, 1, api.Rect{X0: 5, Y0: -7, X1: 5, Y1: -7}},
		{contours{nil, {off(-5, 7)}, nil}, 1, api.Rect{X0: -5, Y0: 7, X1: -5, Y1: 7}},
		{contours{{off(3, 9), on(2, 8)}, {on(4, 7)}}, 3, api.Rect{X0: 2, Y0: 7, X1: 4, Y1: 9}},
		{contours{{on(-3, -9)}, {on(-2, -8)}, {off(-4, -7)}}, 3, api.Rect{X0: -4, Y0: -9, X1: -2, Y1: -7}},
		{contours{{on(math.MinInt, math.MaxInt), on(math.MaxInt, 0)}}, 2, api.Rect{X0: math.MinInt, Y0: 0, X1: math.MaxInt, Y1: math.MaxInt}},
		{rows(1000, 0, 2000), 3000, api.Rect{X0: 0, Y0: -1999, X1: 1999, Y1: 0}},
	} {
		if got := outline.Count(x.o); got != x.n {
			t.Errorf("Count(%v) = %d; want %d", x.o, got, x.n)
		}
		if got := outline.Box(x.o); got != x.box {
			t.Errorf("Box(%v) = %v; want %v", x.o, got, x.box)
		}
	}
	r := newSource(61)
	for range 5000 {
		checkPoints(t, r.outline(6, false))
		checkPoints(t, r.outline(600, true))
	}
}

// P6.2: an outline and those that differ from it in one place.
func TestSame(t *testing.T) {
	o := contours{{on(1, 2), off(3, 4)}, {off(5, 6)}, {}}
	if !outline.Same(o, clone(o)) || !outline.Same(o, contours{{on(1, 2), off(3, 4)}, {off(5, 6)}, nil}) {
		t.Error("equal outlines are not the same")
	}
	for k, p := range []contours{
		nil,
		{{on(2, 2), off(3, 4)}, {off(5, 6)}, {}},
		{{on(1, 3), off(3, 4)}, {off(5, 6)}, {}},
		{{off(1, 2), off(3, 4)}, {off(5, 6)}, {}},
		{{on(1, 2), off(3, 4)}, {on(5, 6)}, {}},
		{{on(1, 2), off(3, 4)}, {off(5, 7)}, {}},
		{{off(3, 4), on(1, 2)}, {off(5, 6)}, {}},
		{{off(5, 6)}, {on(1, 2), off(3, 4)}, {}},
		{{on(1, 2), off(3, 4)}, {}, {off(5, 6)}},
		{{on(1, 2), off(3, 4), off(5, 6)}, {}, {}},
		{{on(1, 2)}, {off(3, 4), off(5, 6)}, {}},
		{{on(1, 2), off(3, 4)}, {off(5, 6)}},
		{{on(1, 2), off(3, 4)}, {off(5, 6)}, {}, {}},
		{{on(1, 2), off(3, 4)}, {off(5, 6)}, {on(0, 0)}},
		{{on(1, 2), off(3, 4)}, {off(5, 6), off(5, 6)}, {}},
		{{on(1, 2)}, {off(5, 6)}, {}},
	} {
		if outline.Same(o, p) || outline.Same(p, o) || !outline.Same(p, p) {
			t.Errorf("%d: %v and %v", k, o, p)
		}
	}
}

// P6.2: small outlines, of which many are equal.
func TestSameOfMany(t *testing.T) {
	r := newSource(62)
	times := map[bool]int{}
	for range 20000 {
		a, b := make(contours, r.IntN(3)), make(contours, r.IntN(3))
		for _, o := range []contours{a, b} {
			for i := range o {
				for range r.IntN(3) {
					o[i] = append(o[i], api.Point{X: r.IntN(2), On: r.IntN(4) == 0})
				}
			}
		}
		got := outline.Same(a, b)
		if got != equal(a, b) {
			t.Errorf("Same(%v, %v) = %v", a, b, got)
		}
		times[got]++
	}
	if times[true] < 1000 || times[false] < 1000 {
		t.Errorf("outlines were the same or not: %v", times)
	}
}

// checkScale compares Scale with products without bounds.
func checkScale(t *testing.T, o contours, n int) {
	t.Helper()
	want, factor := clone(o), big.NewInt(int64(n))
	times := func(x int) int { return wrapped(new(big.Int).Mul(factor, big.NewInt(int64(x)))) }
	for _, c := range want {
		for k, p := range c {
			c[k] = api.Point{X: times(p.X), Y: times(p.Y), On: p.On}
		}
	}
	if got := outline.Scale(o, n); !equal(got, want) {
		t.Errorf("Scale(%v, %d) = %v; want %v", o, n, got, want)
	}
}

// checkShift compares Shift with sums without bounds.
func checkShift(t *testing.T, o contours, x, y int) {
	t.Helper()
	want := clone(o)
	sum := func(a, b int) int { return wrapped(new(big.Int).Add(big.NewInt(int64(a)), big.NewInt(int64(b)))) }
	for _, c := range want {
		for k, p := range c {
			c[k] = api.Point{X: sum(p.X, x), Y: sum(p.Y, y), On: p.On}
		}
	}
	if got := outline.Shift(o, x, y); !equal(got, want) {
		t.Errorf("Shift(%v, %d, %d) = %v; want %v", o, x, y, got, want)
	}
}

// P6.4: examples, and coordinates that wrap around.
func TestScaleAndShift(t *testing.T) {
	o := contours{{on(1, -2), off(0, 3)}, nil, {off(math.MaxInt, math.MinInt)}}
	if got := outline.Scale(o, 2); !equal(got, contours{{on(2, -4), off(0, 6)}, nil, {off(-2, 0)}}) {
		t.Errorf("twice %v is %v", o, got)
	}
	if got := outline.Scale(o, -1); !equal(got, contours{{on(-1, 2), off(0, -3)}, nil, {off(-math.MaxInt, math.MinInt)}}) {
		t.Errorf("the opposite of %v is %v", o, got)
	}
	if got := outline.Scale(o, 0); !equal(got, contours{{on(0, 0), off(0, 0)}, nil, {off(0, 0)}}) {
		t.Errorf("no times %v is %v", o, got)
	}
	if got := outline.Shift(o, 1, -1); !equal(got, contours{{on(2, -3), off(1, 2)}, nil, {off(math.MinInt, math.MaxInt)}}) {
		t.Errorf("%v shifted is %v", o, got)
	}
	r := newSource(63)
	for range 3000 {
		for _, wild := range []bool{false, true} {
			o := r.outline(100, wild)
			checkScale(t, o, r.number(30, wild))
			checkShift(t, o, r.number(30, wild), r.number(30, wild))
		}
	}
}
