package outline_test

import (
	"math"
	"math/big"
	"testing"

	"indelible/api"
	"indelible/outline"
)

func tent(low, peak, high int) api.Tent { return api.Tent{Low: low, Peak: peak, High: high} }

// ramp is a tent whose weight is 64 times the position, from 0 on.
var ramp = tent(0, 64, 64)

func moves(l ...int) []api.Move {
	var m []api.Move
	for k := 0; k < len(l); k += 2 {
		m = append(m, api.Move{X: l[k], Y: l[k+1]})
	}
	return m
}

// rising returns a delta with the region of the document's example.
func rising(l ...int) api.Delta { return api.Delta{Region: []api.Tent{ramp}, Moves: moves(l...)} }

// valueOf returns the value of a valid tent at a position.
func valueOf(t api.Tent, at int) *big.Rat {
	v := min(max(at, -64), 64)
	switch {
	case t.Peak == 0 || v == t.Peak:
		return big.NewRat(1, 1)
	case v <= t.Low || v >= t.High:
		return new(big.Rat)
	case v < t.Peak:
		return big.NewRat(int64(v-t.Low), int64(t.Peak-t.Low))
	}
	return big.NewRat(int64(t.High-v), int64(t.High-t.Peak))
}

// floorOf returns the greatest integer that is not greater than x.
func floorOf(x *big.Rat) *big.Int { return new(big.Int).Div(x.Num(), x.Denom()) } // the rest is not negative

// nearest returns the integer nearest to x, the greater one of two.
func nearest(x *big.Rat) *big.Int { return floorOf(new(big.Rat).Add(x, big.NewRat(1, 2))) }

// weightOf returns the weight of a delta with valid tents, one for each position.
func weightOf(d api.Delta, at []int) *big.Int {
	weight := big.NewRat(4096, 1)
	for i, t := range d.Region {
		weight.Mul(weight, valueOf(t, at[i]))
	}
	return nearest(weight)
}

// movedBy returns what deltas add to a coordinate: the sum wraps around before it is divided.
func movedBy(l []api.Delta, at []int, coordinate func(api.Delta) int) int {
	sum := new(big.Int)
	for _, d := range l {
		sum.Add(sum, new(big.Int).Mul(weightOf(d, at), big.NewInt(int64(coordinate(d)))))
	}
	return wrapped(nearest(big.NewRat(int64(wrapped(sum)), 4096)))
}

// instanceOf returns what Instance must return for deltas that fit.
func instanceOf(o contours, l []api.Delta, at []int) contours {
	all, k := clone(o), 0
	for _, c := range all {
		for i := range c {
			c[i].X += movedBy(l, at, func(d api.Delta) int { return d.Moves[k].X })
			c[i].Y += movedBy(l, at, func(d api.Delta) int { return d.Moves[k].Y })
			k++
		}
	}
	return all
}

func checkInstance(t *testing.T, o contours, l []api.Delta, at []int, want contours) {
	t.Helper()
	if got, errno := outline.Instance(o, l, at); errno != api.OK || !equal(got, want) {
		t.Errorf("Instance(%v, %v, %v) = %v, %v; want %v", o, l, at, got, errno, want)
	}
}

func checkRefused(t *testing.T, o contours, l []api.Delta, at []int, want api.Errno) {
	t.Helper()
	if got, errno := outline.Instance(o, l, at); errno != want || len(got) != 0 {
		t.Errorf("Instance(%v, %v, %v) = %v, %v; want %v", o, l, at, got, errno, want)
	}
}

// P6.3: the example, at positions on both sides of it.
func TestInstance(t *testing.T) {
	l := []api.Delta{rising(0, 0, 10, 0, 3, -3)}
	for _, x := range []struct {
		at   int
		want contours
	}{
		{32, contours{{on(0, 0), off(9, 8), on(10, -1)}}},
		{0, arch()},
		{-32, arch()},
		{-1000, arch()},
		{1, contours{{on(0, 0), off(4, 8), on(8, 0)}}},
		{4, contours{{on(0, 0), off(5, 8), on(8, 0)}}},
		{63, contours{{on(0, 0), off(14, 8), on(11, -3)}}},
		{64, contours{{on(0, 0), off(14, 8), on(11, -3)}}},
		{65, contours{{on(0, 0), off(14, 8), on(11, -3)}}},
		{math.MaxInt, contours{{on(0, 0), off(14, 8), on(11, -3)}}},
		{math.MinInt, arch()},
	} {
		checkInstance(t, arch(), l, []int{x.at}, x.want)
	}
}

// P6.3: halves go up, and the sum of all deltas is rounded, not each of them.
func TestInstanceRounds(t *testing.T) {
	o := contours{{on(0, 0)}}
	for _, x := range []struct {
		l    []api.Delta
		at   int
		want api.Point
	}{
		{[]api.Delta{rising(1, -1)}, 32, on(1, 0)},
		{[]api.Delta{rising(1, -1)}, 31, on(0, 0)},
		{[]api.Delta{rising(1, -1)}, 33, on(1, -1)},
		{[]api.Delta{rising(3, -3)}, 32, on(2, -1)},
		{[]api.Delta{rising(1, -1), rising(1, -1)}, 16, on(1, 0)},
		{[]api.Delta{rising(1, -1), rising(1, -1)}, 32, on(1, -1)},
		{[]api.Delta{rising(1, 0), rising(-1, 0)}, 32, on(0, 0)},
		{[]api.Delta{rising(1, 2), rising(1, 1), rising(1, -1), rising(0, -1)}, 48, on(2, 1)},
	} {
		checkInstance(t, o, x.l, []int{x.at}, contours{{x.want}})
	}
}

// P6.3: weights are rounded; a third of 4096 is 1365, two thirds are 2731.
func TestInstanceRoundsWeights(t *testing.T) {
	o := contours{{on(0, 0)}}
	third := api.Delta{Region: []api.Tent{tent(0, 3, 64)}, Moves: moves(4096, -4096000)}
	checkInstance(t, o, []api.Delta{third}, []int{1}, contours{{on(1365, -1365000)}})
	checkInstance(t, o, []api.Delta{third}, []int{2}, contours{{on(2731, -2731000)}})
	half := api.Delta{Region: []api.Tent{tent(0, 64, 64), tent(0, 64, 64), tent(0, 2, 2)}, Moves: moves(4096, 2048)}
	checkInstance(t, o, []api.Delta{half}, []int{1, 1, 1}, contours{{on(1, 1)}}) // 4096 / 64 / 64 / 2 is a half, which makes 1
	checkInstance(t, o, []api.Delta{half}, []int{1, 1, 0}, contours{{on(0, 0)}})
}

// P6.3: regions without tents and with several.
func TestInstanceOfPositions(t *testing.T) {
	o := contours{{on(0, 0)}, nil, {off(1, 1)}}
	whole := api.Delta{Moves: moves(5, 6, 7, 8)}
	checkInstance(t, o, []api.Delta{whole}, nil, contours{{on(5, 6)}, nil, {off(8, 9)}})
	checkInstance(t, o, []api.Delta{whole, whole}, []int{}, contours{{on(10, 12)}, nil, {off(15, 17)}})
	both := api.Delta{Region: []api.Tent{ramp, tent(-64, -64, 0)}, Moves: moves(8, 16, 24, 32)}
	checkInstance(t, o, []api.Delta{both}, []int{32, -16}, contours{{on(1, 2)}, nil, {off(4, 5)}})
	checkInstance(t, o, []api.Delta{both}, []int{64, -64}, contours{{on(8, 16)}, nil, {off(25, 33)}})
	checkInstance(t, o, []api.Delta{both}, []int{64, 64}, o)
	flat := api.Delta{Region: []api.Tent{tent(-64, 0, 64), ramp}, Moves: moves(8, 16, 24, 32)}
	checkInstance(t, o, []api.Delta{flat, both}, []int{64, 32}, contours{{on(4, 8)}, nil, {off(13, 17)}})
}

// P6.3: outlines without contours or points, and no deltas.
func TestInstanceOfNothing(t *testing.T) {
	empty := api.Delta{Region: []api.Tent{ramp}}
	for _, o := range []contours{nil, {}, {nil}, {{}, {}}} {
		checkInstance(t, o, nil, nil, o)
		checkInstance(t, o, []api.Delta{}, []int{1, 2, 3}, o)
		checkInstance(t, o, []api.Delta{empty, empty}, []int{64}, o)
		checkRefused(t, o, []api.Delta{rising(0, 0)}, []int{64}, api.ErrRegion)
		checkRefused(t, o, []api.Delta{empty}, nil, api.ErrRegion)
	}
	for _, o := range []contours{arch(), {{off(1, 2)}, nil}, rows(100, 200)} {
		checkInstance(t, o, nil, nil, o)
		checkInstance(t, o, nil, []int{64, -64}, o)
		checkInstance(t, o, nil, make([]int, 1000), o)
	}
}

// P6.3: outlines that are not well-formed have instances too.
func TestInstanceOfAnyOutline(t *testing.T) {
	nine := rows(1, 1, 1, 1, 1, 1, 1, 1, 1)
	d := api.Delta{Moves: make([]api.Move, 9)}
	d.Moves[8] = api.Move{X: 1000, Y: -1000}
	want := clone(nine)
	want[8][0] = on(1000, -1000)
	checkInstance(t, nine, []api.Delta{d}, nil, want)
	long := rows(70)
	d.Moves = make([]api.Move, 70)
	d.Moves[69] = api.Move{X: 1, Y: 2}
	want = clone(long)
	want[0][69] = on(70, -67)
	checkInstance(t, long, []api.Delta{d}, nil, want)
}

// P6.3, R2: more than 8 deltas, and deltas that do not fit, first, last or alone.
func TestInstanceRefuses(t *testing.T) {
	o, good := arch(), rising(0, 0, 10, 0, 3, -3)
	eight := []api.Delta{good, good, good, good, good, good, good, good}
	checkInstance(t, o, eight, []int{64}, contours{{on(0, 0), off(84, 8), on(32, -24)}})
	checkRefused(t, o, append(eight, good), []int{64}, api.ErrMany)
	checkRefused(t, o, append(eight, api.Delta{}), []int{64}, api.ErrMany)
	checkRefused(t, o, append(eight, good), nil, api.ErrMany)
	checkRefused(t, o, make([]api.Delta, 9), []int{64}, api.ErrMany)
	checkRefused(t, o, make([]api.Delta, 100000), []int{64}, api.ErrMany)
	checkRefused(t, o, []api.Delta{good}, nil, api.ErrRegion)
	checkRefused(t, o, []api.Delta{good}, []int{32, 32}, api.ErrRegion)
	for k, bad := range []api.Delta{
		{},
		{Moves: good.Moves},
		{Region: []api.Tent{ramp, ramp}, Moves: good.Moves},
		{Region: []api.Tent{tent(-1, 1, 2)}, Moves: good.Moves},
		{Region: []api.Tent{tent(0, 64, 65)}, Moves: good.Moves},
		{Region: []api.Tent{tent(-65, 0, 0)}, Moves: good.Moves},
		{Region: []api.Tent{tent(2, 1, 3)}, Moves: good.Moves},
		{Region: []api.Tent{tent(1, 3, 2)}, Moves: good.Moves},
		{Region: []api.Tent{ramp}},
		rising(0, 0, 10, 0),
		rising(0, 0, 10, 0, 3, -3, 0, 0),
		{Region: []api.Tent{ramp}, Moves: make([]api.Move, 64)},
	} {
		for _, l := range [][]api.Delta{{bad}, {bad, good}, {good, bad}, {good, good, good, good, good, good, good, bad}, {good, bad, good}} {
			checkRefused(t, o, l, []int{0}, api.ErrRegion)
			checkRefused(t, o, l, []int{64}, api.ErrRegion)
		}
		if t.Failed() {
			t.Fatalf("the delta number %d is not refused", k)
		}
	}
}

// P6.3: sums and coordinates that wrap around.
func TestInstanceWrapsAround(t *testing.T) {
	o := contours{{on(0, math.MaxInt)}}
	whole := func(x, y int) api.Delta { return api.Delta{Region: []api.Tent{tent(0, 0, 0)}, Moves: moves(x, y)} }
	checkInstance(t, o, []api.Delta{whole(1<<51, 1)}, []int{0}, contours{{on(-1<<51, math.MinInt)}})
	checkInstance(t, o, []api.Delta{whole(1<<51-1, 0)}, []int{0}, contours{{on(1<<51-1, math.MaxInt)}})
	checkInstance(t, o, []api.Delta{whole(math.MaxInt, math.MinInt)}, []int{0}, contours{{on(-1, math.MaxInt)}})
	checkInstance(t, o, []api.Delta{whole(1<<50, 0), whole(1<<50, 0)}, []int{0}, contours{{on(-1<<51, math.MaxInt)}})
	checkInstance(t, o, []api.Delta{rising(math.MaxInt, 0)}, []int{1}, contours{{on(0, math.MaxInt)}}) // the sum is -64
	checkInstance(t, o, []api.Delta{rising(math.MaxInt, 0)}, []int{63}, contours{{on(-1, math.MaxInt)}})
	checkInstance(t, o, []api.Delta{rising(math.MinInt, 0)}, []int{1}, contours{{on(0, math.MaxInt)}})
}

// tents returns valid tents of all kinds.
func tents() []api.Tent {
	var l []api.Tent
	edges := []int{-64, -63, -40, -3, -1, 0, 1, 2, 31, 48, 63, 64}
	for _, low := range edges {
		for _, peak := range edges {
			for _, high := range edges {
				if low <= peak && peak <= high && (low >= 0 || high <= 0 || peak == 0) {
					l = append(l, tent(low, peak, high))
				}
			}
		}
	}
	return l
}

// deltas returns up to 8 deltas that fit a number of positions and of points.
func (r source) deltas(all []api.Tent, positions, points int, wild bool) []api.Delta {
	l := make([]api.Delta, r.IntN(9))
	for i := range l {
		for range positions {
			l[i].Region = append(l[i].Region, all[r.IntN(len(all))])
		}
		for range points {
			l[i].Moves = append(l[i].Moves, api.Move{X: r.number(512, wild), Y: r.number(512, wild)})
		}
	}
	return l
}

// positions returns up to 3 positions, often beyond the limits.
func (r source) positions() []int {
	var at []int
	for range r.IntN(4) {
		at = append(at, r.number(70, r.IntN(4) == 0))
	}
	return at
}

// P6.3
func TestInstanceOfMany(t *testing.T) {
	r, all := newSource(67), tents()
	for round := range 5000 {
		wild := round%2 == 1
		o, at := r.outline(512, wild), r.positions()
		l := r.deltas(all, len(at), outline.Count(o), wild)
		checkInstance(t, o, l, at, instanceOf(o, l, at))
	}
}

// P6.3: weights are exact where 4096 times the numerator of the value of a region is no int, and none are above 4096.
func TestInstanceOfManyTents(t *testing.T) {
	o := contours{{on(0, 0)}}
	for n := 1; n <= 11; n++ {
		for _, x := range []struct {
			t  api.Tent
			at int
		}{{tent(0, 32, 64), 31}, {tent(0, 63, 63), 62}, {tent(-64, -61, 0), -60}, {ramp, 33}, {tent(0, 2, 2), 1}} {
			d := api.Delta{Moves: moves(4096, -4096)}
			var at []int
			exact := big.NewRat(1, 1)
			for range n {
				d.Region, at = append(d.Region, x.t), append(at, x.at)
				exact.Mul(exact, valueOf(x.t, x.at))
			}
			if exact.Denom().IsInt64() {
				checkInstance(t, o, []api.Delta{d}, at, instanceOf(o, []api.Delta{d}, at))
			}
		}
	}
}

// P6.3, P1: a region whose value axis.Scalar does not compute has the weight 0.
func TestInstanceOfTooManyTents(t *testing.T) {
	o := contours{{on(1, 2)}}
	d := api.Delta{Moves: moves(1<<20, 1<<20)}
	var at []int
	for range 13 {
		d.Region, at = append(d.Region, tent(0, 63, 63)), append(at, 62)
	}
	checkInstance(t, o, []api.Delta{d}, at, o)
}
