package axis_test

import (
	"math/big"
	"math/rand/v2"
	"slices"
	"testing"

	"indelible/api"
	"indelible/axis"
)

// normal returns the normalized position on one axis.
func normal(t *testing.T, a api.Axis, user int) int {
	t.Helper()
	at, errno := axis.Normal([]api.Axis{a}, []int{user})
	if errno != api.OK || len(at) != 1 {
		t.Fatalf("Normal(%v, %d) = %v, %v", a, user, at, errno)
	}
	return at[0]
}

// P5.6
func TestNormalIsMonotone(t *testing.T) {
	for _, a := range axes() {
		before := -64
		for user := a.Low - 2; user <= a.High+2; user++ {
			n := normal(t, a, user)
			if n < before || n > 64 {
				t.Errorf("Normal on %v is %d at %d, after %d", a, n, user, before)
			}
			before = n
		}
	}
}

// P5.6
func TestNormalAtTheEnds(t *testing.T) {
	for _, a := range axes() {
		if n := normal(t, a, a.Usual); n != 0 {
			t.Errorf("Normal on %v is %d at the usual position", a, n)
		}
		if n := normal(t, a, a.Low); a.Low < a.Usual && n != -64 {
			t.Errorf("Normal on %v is %d at the lowest position", a, n)
		}
		if n := normal(t, a, a.High); a.High > a.Usual && n != 64 {
			t.Errorf("Normal on %v is %d at the highest position", a, n)
		}
	}
}

// P5.7: sides of all lengths up to 64, at several usual positions.
func TestUserReturnsShortSides(t *testing.T) {
	for _, usual := range []int{-936, -70, 0, 33, 936} {
		for side := range 65 {
			for _, other := range []int{0, 1, 64 - side, 64} {
				a := api.Axis{Tag: "a", Low: usual - side, Usual: usual, High: usual + other}
				for user := a.Low - 2; user <= a.High+2; user++ {
					if got := axis.User(a, normal(t, a, user)); got != min(max(user, a.Low), a.High) {
						t.Errorf("User of Normal of %d on %v is %d", user, a, got)
					}
				}
			}
		}
	}
}

// P5.7: sides of all lengths from 64 on.
func TestNormalReturnsLongSides(t *testing.T) {
	for side := 64; side <= 2000-64; side++ {
		for _, a := range []api.Axis{
			{Tag: "a", Low: -1000, Usual: side - 1000, High: 1000},
			{Tag: "a", Low: -1000, Usual: side - 1000, High: side - 1000 + 64},
		} {
			for n := -66; n <= 66; n++ {
				if got := normal(t, a, axis.User(a, n)); got != min(max(n, -64), 64) {
					t.Errorf("Normal of User of %d on %v is %d", n, a, got)
				}
			}
		}
	}
}

// scalar returns the value of a region that has one.
func scalar(t *testing.T, region []api.Tent, at ...int) *big.Rat {
	t.Helper()
	x := axis.Scalar(region, at)
	if x.D < 1 {
		t.Fatalf("Scalar(%v, %v) = %v", region, at, x)
	}
	return big.NewRat(int64(x.N), int64(x.D))
}

// P5.8: from 0 to 1, and 1 at the peaks.
func TestScalarOfThreeTents(t *testing.T) {
	r := rand.New(rand.NewPCG(53, 5))
	one, all := big.NewRat(1, 1), tents()
	for range 50000 {
		var region []api.Tent
		var at, peaks []int
		for range r.IntN(4) {
			x := all[r.IntN(len(all))]
			region, at, peaks = append(region, x), append(at, x.Low+r.IntN(x.High-x.Low+1)), append(peaks, x.Peak)
		}
		if x := scalar(t, region, at...); x.Sign() < 0 || x.Cmp(one) > 0 {
			t.Errorf("Scalar(%v, %v) = %v", region, at, x)
		}
		if x := scalar(t, region, peaks...); x.Cmp(one) != 0 {
			t.Errorf("Scalar(%v, %v) = %v; want 1", region, peaks, x)
		}
	}
}

// P5.8: on each side, each value is the mean of its neighbours, which are part of that side.
func TestTentIsLinear(t *testing.T) {
	for _, x := range tents() {
		region := []api.Tent{x}
		for v := x.Low + 1; v < x.High; v++ {
			if v == x.Peak {
				continue
			}
			twice := scalar(t, region, v)
			twice.Add(twice, twice)
			if mean := scalar(t, region, v-1); mean.Add(mean, scalar(t, region, v+1)).Cmp(twice) != 0 {
				t.Errorf("the tent %v is not linear at %d", x, v)
			}
		}
	}
}

// call is a set of arguments for all functions.
type call struct {
	l      []api.Axis
	user   []int
	n      int
	region []api.Tent
	at     []int
}

// anyCall returns arguments that are often not valid.
func anyCall(r *rand.Rand, good, bad []api.Tent) call {
	number := func() int {
		if l := extremes(); r.IntN(3) == 0 {
			return l[r.IntN(len(l))]
		}
		return r.IntN(300) - 150
	}
	c := call{l: anyAxes(r), n: number()}
	for range max(0, len(c.l)+r.IntN(7)/3-1) {
		c.user = append(c.user, number())
	}
	c.region, c.at = anyRegion(r, good, bad)
	for k := range c.at {
		if r.IntN(4) == 0 {
			c.at[k] = number()
		}
	}
	return c
}

// clone returns a copy with room behind the ends of its slices.
func (c call) clone() call {
	return call{slices.Grow(slices.Clone(c.l), 3), slices.Grow(slices.Clone(c.user), 3), c.n, slices.Grow(slices.Clone(c.region), 3), slices.Grow(slices.Clone(c.at), 3)}
}

func (c call) equal(d call) bool {
	return slices.Equal(c.l, d.l) && slices.Equal(c.user, d.user) && c.n == d.n && slices.Equal(c.region, d.region) && slices.Equal(c.at, d.at)
}

// whole returns the slices up to the ends of their room.
func (c call) whole() call {
	return call{c.l[:cap(c.l)], c.user[:cap(c.user)], c.n, c.region[:cap(c.region)], c.at[:cap(c.at)]}
}

// everything calls every function, and returns the positions and all other results.
func everything(c call) ([]int, []any) {
	at, errno := axis.Normal(c.l, c.user)
	others := []any{errno, axis.Check(c.l), axis.Fits(c.region, c.n), axis.Fits(c.region, len(c.region)), axis.Scalar(c.region, c.at)}
	for _, a := range c.l {
		others = append(others, axis.User(a, c.n))
	}
	return at, others
}

// R3, R4, P1: arguments stay as they are, even behind their ends; results have memory of their own, and come again.
func TestArgumentsAndResults(t *testing.T) {
	r := rand.New(rand.NewPCG(54, 5))
	good, bad := tents(), invalid()
	found := 0
	for range 20000 {
		c := anyCall(r, good, bad).clone()
		kept := c.whole().clone()
		at, others := everything(c)
		first := slices.Clone(at)
		found += len(at)
		for k := range at[:cap(at)] {
			at[:cap(at)][k] = 12345
		}
		if !c.whole().equal(kept) {
			t.Fatalf("the arguments %v were changed", kept)
		}
		if again, othersAgain := everything(c); !slices.Equal(again, first) || !slices.Equal(othersAgain, others) {
			t.Fatalf("calls with %v do not return the same again", c)
		}
	}
	if found < 1000 {
		t.Errorf("only %d positions were found", found)
	}
}

// R1
func TestNilAndEmpty(t *testing.T) {
	for _, region := range [][]api.Tent{nil, {}} {
		for _, at := range [][]int{nil, {}} {
			if axis.Scalar(region, at) != ratio(1, 1) || !axis.Fits(region, 0) || axis.Fits(region, 1) {
				t.Errorf("a region without tents: %v, %v", region, at)
			}
			if axis.Scalar([]api.Tent{tent(1, 2, 3)}, at) != ratio(0, 1) {
				t.Errorf("a tent without a position: %v", at)
			}
			if got, errno := axis.Normal([]api.Axis{weight}, at); errno != api.ErrArg || len(got) != 0 {
				t.Errorf("an axis without a position: %v, %v", got, errno)
			}
		}
	}
	for _, l := range [][]api.Axis{nil, {}} {
		for _, user := range [][]int{nil, {}} {
			if got, errno := axis.Normal(l, user); errno != api.OK || len(got) != 0 || axis.Check(l) != api.OK {
				t.Errorf("no axes: %v, %v", got, errno)
			}
		}
		if _, errno := axis.Normal(l, []int{0}); errno != api.ErrArg {
			t.Errorf("a position without an axis: %v", errno)
		}
	}
}
