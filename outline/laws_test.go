package outline_test

import (
	"slices"
	"testing"

	"indelible/api"
	"indelible/outline"
)

// numberOfPoints returns how many points the polygon of a contour has, by the kinds of its points and of those after them.
func numberOfPoints(c []api.Point) int {
	isOff := func(k int) bool { return k%len(c) != 0 && !c[k%len(c)].On }
	n := 0
	for k := range c {
		switch {
		case !isOff(k):
			n++
		case isOff(k + 1):
			n += 4
		default:
			n += 3
		}
	}
	return n
}

// P6.6
func TestPolygonsHaveTheirPoints(t *testing.T) {
	r := newSource(71)
	for range 5000 {
		o := r.outline(512, false)
		for i, polygon := range outline.Flat(o) {
			if len(polygon) != numberOfPoints(o[i]) {
				t.Errorf("the polygon of %v has %d points; want %d", o[i], len(polygon), numberOfPoints(o[i]))
			}
			box := outline.Box(contours{o[i]})
			for _, p := range polygon {
				if !p.On || p.X < 32*box.X0 || p.X > 32*box.X1 || p.Y < 32*box.Y0 || p.Y > 32*box.Y1 {
					t.Errorf("the polygon of %v has the point %v", o[i], p)
				}
			}
		}
	}
}

// P6.7
func TestFlatOfShiftedAndScaled(t *testing.T) {
	r := newSource(72)
	for range 5000 {
		o, x, y, n := r.outline(512, false), r.number(600, false), r.number(600, false), r.number(20, false)
		if a, b := outline.Flat(outline.Shift(o, x, y)), outline.Shift(outline.Flat(o), 32*x, 32*y); !outline.Same(a, b) {
			t.Errorf("%v shifted by %d, %d: %v and %v", o, x, y, a, b)
		}
		if a, b := outline.Flat(outline.Scale(o, n)), outline.Scale(outline.Flat(o), n); !outline.Same(a, b) {
			t.Errorf("%d times %v: %v and %v", n, o, a, b)
		}
	}
}

// instance returns the instance of an outline that has one.
func instance(t *testing.T, o contours, l []api.Delta, at []int) contours {
	t.Helper()
	got, errno := outline.Instance(o, l, at)
	if errno != api.OK {
		t.Fatalf("Instance(%v, %v, %v) = %v", o, l, at, errno)
	}
	return got
}

// P6.7
func TestInstanceOfShifted(t *testing.T) {
	r, all := newSource(73), tents()
	for range 3000 {
		o, at, x, y := r.outline(512, false), r.positions(), r.number(600, false), r.number(600, false)
		l := r.deltas(all, len(at), outline.Count(o), false)
		if a, b := instance(t, outline.Shift(o, x, y), l, at), outline.Shift(instance(t, o, l, at), x, y); !outline.Same(a, b) {
			t.Errorf("%v shifted by %d, %d: %v and %v", o, x, y, a, b)
		}
	}
}

// P6.8: deltas in another order, also where sums wrap around.
func TestOrderOfDeltas(t *testing.T) {
	r, all := newSource(74), tents()
	for round := range 3000 {
		wild := round%2 == 1
		o, at := r.outline(512, wild), r.positions()
		l := r.deltas(all, len(at), outline.Count(o), wild)
		shuffled := slices.Clone(l)
		r.Shuffle(len(shuffled), func(i, j int) { shuffled[i], shuffled[j] = shuffled[j], shuffled[i] })
		if a, b := instance(t, o, l, at), instance(t, o, shuffled, at); !outline.Same(a, b) {
			t.Errorf("%v and %v of %v at %v: %v and %v", l, shuffled, o, at, a, b)
		}
	}
}

// P6.8: weights 0 and 4096.
func TestWeightsAtTheEnds(t *testing.T) {
	r, all := newSource(75), tents()
	for range 3000 {
		o := r.outline(512, false)
		n := 1 + r.IntN(3)
		l := r.deltas(all, n, outline.Count(o), false)
		at := make([]int, n)
		for i := range l {
			l[i].Region[r.IntN(n)] = tent(1, 40, 64) // 0 at 0
		}
		if got := instance(t, o, l, at); !outline.Same(got, o) {
			t.Errorf("%v at %v is %v with the weights 0", o, at, got)
		}
		if len(l) == 0 {
			continue
		}
		want, k := clone(o), 0
		for i, x := range l[0].Region {
			at[i] = x.Peak
		}
		for _, c := range want {
			for i := range c {
				c[i].X, c[i].Y = c[i].X+l[0].Moves[k].X, c[i].Y+l[0].Moves[k].Y
				k++
			}
		}
		if got := instance(t, o, l[:1], at); !outline.Same(got, want) {
			t.Errorf("%v with %v at its peaks is %v; want %v", o, l[0], got, want)
		}
	}
}

// call is a set of arguments for all functions.
type call struct {
	a, b contours
	l    []api.Delta
	at   []int
	x, y int
}

// call returns arguments that fit each other more often than not.
func (r source) call(all []api.Tent) call {
	c := call{a: clone(r.outline(512, r.IntN(2) == 0)), b: clone(r.outline(512, false)), at: slices.Grow(r.positions(), 2), x: r.number(50, true), y: r.number(50, true)}
	c.l = slices.Grow(r.deltas(all, len(c.at)+r.IntN(8)/7, outline.Count(c.a)+r.IntN(8)/7, true), 2)
	return c
}

// clone returns a copy, with all that lies behind the ends of slices.
func (c call) clone() call {
	d := call{a: whole(c.a), b: whole(c.b), at: slices.Clone(c.at[:cap(c.at)]), x: c.x, y: c.y}
	for _, e := range c.l[:cap(c.l)] {
		d.l = append(d.l, api.Delta{Region: slices.Clone(e.Region[:cap(e.Region)]), Moves: slices.Clone(e.Moves[:cap(e.Moves)])})
	}
	return d
}

// whole returns a copy of an outline, with all that lies behind the ends of slices.
func whole(o contours) contours {
	var all contours
	for _, c := range o[:cap(o)] {
		all = append(all, slices.Clone(c[:cap(c)]))
	}
	return all
}

func (c call) equal(d call) bool {
	sameDelta := func(a, b api.Delta) bool {
		return slices.Equal(a.Region, b.Region) && slices.Equal(a.Moves, b.Moves)
	}
	return equal(c.a, d.a) && equal(c.b, d.b) && slices.EqualFunc(c.l, d.l, sameDelta) && slices.Equal(c.at, d.at) && c.x == d.x && c.y == d.y
}

// everything calls every function, and returns all outlines and all other results.
func everything(c call) ([]contours, []any) {
	i, errno := outline.Instance(c.a, c.l, c.at)
	j, _ := outline.Instance(c.a, nil, c.at)
	outlines := []contours{i, j, outline.Scale(c.a, c.x), outline.Scale(c.a, 1), outline.Shift(c.a, c.x, c.y), outline.Shift(c.a, 0, 0), outline.Flat(c.a), outline.Flat(c.b)}
	others := []any{errno, outline.Check(c.a), outline.Check(c.b), outline.Count(c.a), outline.Box(c.a), outline.Box(c.b), outline.Same(c.a, c.b), outline.Same(c.a, c.a)}
	return outlines, others
}

// spoil changes all points of an outline, and what lies behind the ends of its contours, and reports whether no two of them share memory.
func spoil(o contours) bool {
	for i, c := range o {
		for k := range c[:cap(c)] {
			c[:cap(c)][k] = on(i+1000, 99999)
		}
	}
	for i, c := range o {
		for _, p := range c[:cap(c)] {
			if p != on(i+1000, 99999) {
				return false
			}
		}
	}
	return true
}

// R3, R4, P1: arguments stay as they are, even behind their ends; results have memory of their own, contour by contour, and come again.
func TestArgumentsAndResults(t *testing.T) {
	r, all := newSource(76), tents()
	times := map[any]int{}
	for range 5000 {
		c := r.call(all)
		kept := c.clone()
		outlines, others := everything(c)
		times[others[0]]++
		var first []contours
		for _, o := range outlines {
			first = append(first, clone(o))
		}
		for k, o := range outlines {
			if !spoil(o) {
				t.Fatalf("contours of the result number %d share memory", k)
			}
		}
		if !c.clone().equal(kept) {
			t.Fatalf("the arguments %v were changed", kept)
		}
		again, othersAgain := everything(c)
		if !slices.EqualFunc(again, first, equal) || !slices.Equal(othersAgain, others) {
			t.Fatalf("calls with %v do not return the same again", c)
		}
	}
	if times[api.OK] < 1000 || times[api.ErrRegion] < 500 {
		t.Errorf("errors of Instance: %v", times)
	}
}

// R1
func TestNilAndEmpty(t *testing.T) {
	for _, o := range []contours{nil, {}} {
		for _, l := range [][]api.Delta{nil, {}} {
			for _, at := range [][]int{nil, {}} {
				checkInstance(t, o, l, at, nil)
			}
		}
		if len(outline.Scale(o, 2)) != 0 || len(outline.Shift(o, 1, 1)) != 0 || len(outline.Flat(o)) != 0 || outline.Check(o) != api.OK || outline.Box(o) != (api.Rect{}) {
			t.Errorf("an outline without contours: %v", o)
		}
		for _, p := range []contours{nil, {}} {
			if !outline.Same(o, p) || outline.Same(o, contours{nil}) || outline.Same(contours{{}}, p) {
				t.Errorf("outlines without contours: %v, %v", o, p)
			}
		}
	}
	for _, c := range [][]api.Point{nil, {}} {
		o := contours{c}
		for _, got := range []contours{outline.Scale(o, 2), outline.Shift(o, 1, 1), outline.Flat(o)} {
			if len(got) != 1 || len(got[0]) != 0 {
				t.Errorf("a contour without points becomes %v", got)
			}
		}
		if !outline.Same(o, contours{nil}) || !outline.Same(contours{{}}, o) || outline.Check(o) != api.ErrContour {
			t.Errorf("a contour without points: %v", o)
		}
	}
	d := api.Delta{Region: []api.Tent{}, Moves: []api.Move{}}
	checkInstance(t, contours{{}}, []api.Delta{d, {}}, nil, contours{nil})
}
