package axis_test

import (
	"math"
	"math/big"
	"math/rand/v2"
	"slices"
	"testing"

	"indelible/api"
	"indelible/axis"
)

func tent(low, peak, high int) api.Tent { return api.Tent{Low: low, Peak: peak, High: high} }

func ratio(n, d int) api.Ratio { return api.Ratio{N: n, D: d} }

// valid reports whether a tent is valid.
func valid(x api.Tent) bool {
	inOrder := slices.IsSorted([]int{-64, x.Low, x.Peak, x.High, 64})
	return inOrder && (x.Low >= 0 || x.High <= 0 || x.Peak == 0)
}

// tents returns valid tents, among them all shapes: with the peak 0, at one end, at both, and in between.
func tents() []api.Tent {
	few := []int{-64, -63, -48, -33, -32, -17, -5, -2, -1, 0, 1, 2, 3, 16, 31, 32, 40, 63, 64}
	var l []api.Tent
	for _, low := range few {
		for _, peak := range few {
			for _, high := range few {
				if x := tent(low, peak, high); valid(x) {
					l = append(l, x)
				}
			}
		}
	}
	return l
}

// invalid returns tents that are not valid.
func invalid() []api.Tent {
	return []api.Tent{
		tent(-1, 1, 2), tent(-2, -1, 1), tent(-64, 64, 64), tent(-64, -64, 64), tent(-1, 1, 1), tent(-1, -1, 1),
		tent(1, 0, 2), tent(0, 2, 1), tent(2, 1, 0), tent(0, -1, 0), tent(1, 0, -1), tent(0, 1, 0), tent(5, 4, 4), tent(-4, -4, -5),
		tent(-65, -64, 0), tent(0, 64, 65), tent(-65, 0, 64), tent(-64, 0, 65), tent(-65, -65, -65), tent(65, 65, 65), tent(-70, -70, 0), tent(0, 70, 70), tent(65, 64, 64), tent(-64, -64, -65), tent(0, 65, 64),
		tent(math.MinInt, 0, 64), tent(-64, 0, math.MaxInt), tent(math.MinInt, 0, math.MaxInt), tent(math.MaxInt, 0, math.MinInt),
		tent(0, math.MaxInt, math.MaxInt), tent(math.MinInt, math.MinInt, 0), tent(math.MinInt, math.MinInt, math.MinInt), tent(math.MaxInt, math.MaxInt, math.MaxInt),
	}
}

// P5.4: the example, and tents that are valid by each of the conditions, or by none.
func TestFits(t *testing.T) {
	if axis.Fits([]api.Tent{tent(-1, 1, 2)}, 1) {
		t.Error("Fits accepts a tent on both sides of 0")
	}
	for _, x := range []api.Tent{{}, tent(0, 64, 64), tent(-64, -64, 0), tent(0, 32, 64), tent(-64, 0, 64), tent(-1, 0, 2), tent(0, 0, 0), tent(64, 64, 64), tent(-64, -64, -64), tent(3, 3, 5), tent(3, 5, 5), tent(0, 1, 1), tent(0, 0, 5), tent(-5, 0, 0), tent(-5, -1, 0)} {
		if !axis.Fits([]api.Tent{x}, 1) {
			t.Errorf("Fits refuses %v", x)
		}
	}
	for _, x := range invalid() {
		if axis.Fits([]api.Tent{x}, 1) {
			t.Errorf("Fits accepts %v", x)
		}
	}
}

// P5.4: all tents in a range that goes beyond the limits.
func TestFitsOfAllTents(t *testing.T) {
	for low := -66; low <= 66; low++ {
		for peak := -66; peak <= 66; peak++ {
			for high := -66; high <= 66; high++ {
				x := tent(low, peak, high)
				if got := axis.Fits([]api.Tent{x}, 1); got != valid(x) {
					t.Fatalf("Fits of %v = %v", x, got)
				}
			}
		}
	}
}

// P5.4: the number of tents, and the place of one that is not valid.
func TestFitsOfNumbers(t *testing.T) {
	good, bad := tent(0, 32, 64), tent(-1, 1, 2)
	for size := range 6 {
		region := slices.Repeat([]api.Tent{good}, size)
		for _, n := range append(extremes(), -size, -1, 0, 1, 2, 3, 4, 5, 6) {
			if got := axis.Fits(region, n); got != (n == size) {
				t.Errorf("Fits of %d tents and %d = %v", size, n, got)
			}
		}
		for k := range size {
			region[k] = bad
			if axis.Fits(region, size) {
				t.Errorf("Fits accepts %v", region)
			}
			region[k] = good
		}
	}
	if !axis.Fits(nil, 0) || axis.Fits(nil, 1) || axis.Fits(nil, -1) {
		t.Error("Fits of no tents")
	}
}

// valueOf returns the value of a valid tent at a normalized position.
func valueOf(x api.Tent, v int) *big.Rat {
	switch {
	case x.Peak == 0 || v == x.Peak:
		return big.NewRat(1, 1)
	case v <= x.Low || v >= x.High:
		return new(big.Rat)
	case v < x.Peak:
		return big.NewRat(int64(v-x.Low), int64(x.Peak-x.Low))
	}
	return big.NewRat(int64(x.High-v), int64(x.High-x.Peak))
}

// scalarOf returns what Scalar must return.
func scalarOf(region []api.Tent, at []int) api.Ratio {
	if !slices.ContainsFunc(region, func(x api.Tent) bool { return !valid(x) }) {
		product := big.NewRat(1, 1)
		for i, x := range region {
			v := 0
			if i < len(at) {
				v = min(max(at[i], -64), 64)
			}
			product.Mul(product, valueOf(x, v))
			if !product.Num().IsInt64() || !product.Denom().IsInt64() {
				return api.Ratio{}
			}
		}
		return ratio(int(product.Num().Int64()), int(product.Denom().Int64()))
	}
	return api.Ratio{}
}

func checkScalar(t *testing.T, region []api.Tent, at []int, want api.Ratio) {
	t.Helper()
	if got := axis.Scalar(region, at); got != want {
		t.Errorf("Scalar(%v, %v) = %v; want %v", region, at, got, want)
	}
}

// P5.5: the examples, and tents with the peak 0, at an end, and at both.
func TestScalarOfOneTent(t *testing.T) {
	for _, x := range []struct {
		x    api.Tent
		at   int
		want api.Ratio
	}{
		{tent(0, 64, 64), 16, ratio(1, 4)}, {tent(0, 64, 64), 64, ratio(1, 1)}, {tent(0, 64, 64), -5, ratio(0, 1)}, {tent(0, 64, 64), 0, ratio(0, 1)}, {tent(0, 64, 64), 65, ratio(1, 1)}, {tent(0, 64, 64), 63, ratio(63, 64)},
		{tent(-64, 0, 64), 50, ratio(1, 1)}, {tent(-64, 0, 64), -64, ratio(1, 1)}, {tent(-64, 0, 64), 64, ratio(1, 1)}, {tent(-64, 0, 64), 100, ratio(1, 1)},
		{tent(0, 0, 0), 0, ratio(1, 1)}, {tent(0, 0, 0), 1, ratio(1, 1)}, {tent(0, 0, 0), -64, ratio(1, 1)}, {tent(0, 0, 9), 30, ratio(1, 1)}, {tent(-9, 0, 0), 30, ratio(1, 1)},
		{tent(-64, -64, 0), -16, ratio(1, 4)}, {tent(-64, -64, 0), -64, ratio(1, 1)}, {tent(-64, -64, 0), -99, ratio(1, 1)}, {tent(-64, -64, 0), 0, ratio(0, 1)}, {tent(-64, -64, 0), 5, ratio(0, 1)},
		{tent(10, 20, 50), 9, ratio(0, 1)}, {tent(10, 20, 50), 10, ratio(0, 1)}, {tent(10, 20, 50), 11, ratio(1, 10)}, {tent(10, 20, 50), 15, ratio(1, 2)}, {tent(10, 20, 50), 20, ratio(1, 1)}, {tent(10, 20, 50), 21, ratio(29, 30)}, {tent(10, 20, 50), 35, ratio(1, 2)}, {tent(10, 20, 50), 49, ratio(1, 30)}, {tent(10, 20, 50), 50, ratio(0, 1)}, {tent(10, 20, 50), 51, ratio(0, 1)},
		{tent(-50, -20, -10), -35, ratio(1, 2)}, {tent(-50, -20, -10), -14, ratio(2, 5)}, {tent(-50, -20, -10), -50, ratio(0, 1)}, {tent(-50, -20, -10), -10, ratio(0, 1)}, {tent(-50, -20, -10), 20, ratio(0, 1)},
		{tent(7, 7, 11), 7, ratio(1, 1)}, {tent(7, 7, 11), 6, ratio(0, 1)}, {tent(7, 7, 11), 9, ratio(1, 2)}, {tent(7, 7, 11), 11, ratio(0, 1)},
		{tent(7, 11, 11), 7, ratio(0, 1)}, {tent(7, 11, 11), 9, ratio(1, 2)}, {tent(7, 11, 11), 11, ratio(1, 1)}, {tent(7, 11, 11), 12, ratio(0, 1)},
		{tent(7, 7, 7), 6, ratio(0, 1)}, {tent(7, 7, 7), 7, ratio(1, 1)}, {tent(7, 7, 7), 8, ratio(0, 1)},
		{tent(0, 64, 64), math.MaxInt, ratio(1, 1)}, {tent(0, 64, 64), math.MinInt, ratio(0, 1)}, {tent(-64, -64, 0), math.MinInt, ratio(1, 1)}, {tent(0, 32, 64), math.MaxInt, ratio(0, 1)},
	} {
		checkScalar(t, []api.Tent{x.x}, []int{x.at}, x.want)
	}
}

// P5.5
func TestScalarOfAllPositions(t *testing.T) {
	for _, x := range tents() {
		for v := -66; v <= 66; v++ {
			checkScalar(t, []api.Tent{x}, []int{v}, scalarOf([]api.Tent{x}, []int{v}))
		}
		for _, v := range extremes() {
			checkScalar(t, []api.Tent{x}, []int{v}, scalarOf([]api.Tent{x}, []int{v}))
		}
	}
}

// P5.5: products, positions that are missing, and too many.
func TestScalarOfManyTents(t *testing.T) {
	first, second, third := tent(0, 32, 64), tent(-64, -64, 0), tent(-9, 0, 9)
	for _, x := range []struct {
		region []api.Tent
		at     []int
		want   api.Ratio
	}{
		{nil, nil, ratio(1, 1)},
		{[]api.Tent{}, []int{}, ratio(1, 1)},
		{nil, []int{5, 6}, ratio(1, 1)},
		{[]api.Tent{first, second}, []int{48, -16}, ratio(1, 8)},
		{[]api.Tent{second, first}, []int{-16, 48}, ratio(1, 8)},
		{[]api.Tent{second, first}, []int{48, -16}, ratio(0, 1)},
		{[]api.Tent{first, second, third}, []int{48, -16, 20}, ratio(1, 8)},
		{[]api.Tent{first, second, third}, []int{48, -16}, ratio(1, 8)},
		{[]api.Tent{first, second, third}, []int{48}, ratio(0, 1)},
		{[]api.Tent{first}, nil, ratio(0, 1)},
		{[]api.Tent{third}, nil, ratio(1, 1)},
		{[]api.Tent{third, third, third}, nil, ratio(1, 1)},
		{[]api.Tent{first}, []int{48, 0, 0, 0}, ratio(1, 2)},
		{[]api.Tent{first, second}, []int{48, -16, math.MinInt, math.MaxInt}, ratio(1, 8)},
		{[]api.Tent{first, first, first}, []int{24, 40, 31}, ratio(279, 512)},
		{[]api.Tent{first, first, first}, []int{24, 64, 31}, ratio(0, 1)},
		{[]api.Tent{tent(0, 6, 6), tent(0, 6, 6)}, []int{2, 3}, ratio(1, 6)},
	} {
		checkScalar(t, x.region, x.at, x.want)
	}
	if got := axis.Scalar(slices.Repeat([]api.Tent{third}, 100000), nil); got != ratio(1, 1) {
		t.Errorf("Scalar of many tents with the peak 0 = %v", got)
	}
}

// P5.5: products beyond the numbers of type int, and a tent of the value 0 before and behind them.
func TestScalarBeyondBounds(t *testing.T) {
	slope := tent(0, 64, 64)
	for _, x := range []struct {
		zeroAt, tents int
		want          api.Ratio
	}{
		{-1, 10, ratio(1, 1<<60)},
		{-1, 11, api.Ratio{}},
		{-1, 12, api.Ratio{}},
		{-1, 1000, api.Ratio{}},
		{0, 11, ratio(0, 1)},
		{0, 1000, ratio(0, 1)},
		{9, 1000, ratio(0, 1)},
		{10, 11, ratio(0, 1)},
		{10, 12, ratio(0, 1)},
		{11, 12, api.Ratio{}},
		{999, 1000, api.Ratio{}},
	} {
		region, at := slices.Repeat([]api.Tent{slope}, x.tents), slices.Repeat([]int{1}, x.tents)
		if x.zeroAt >= 0 {
			at[x.zeroAt] = -1
		}
		if got := axis.Scalar(region, at); got != x.want {
			t.Errorf("Scalar of %d tents, 0 at %d = %v; want %v", x.tents, x.zeroAt, got, x.want)
		}
	}
}

// P5.5: with one tent that is not valid, wherever it stands, there is no value.
func TestScalarOfInvalid(t *testing.T) {
	for _, bad := range invalid() {
		for _, v := range append(extremes(), -64, -1, 0, 1, 64) {
			checkScalar(t, []api.Tent{bad}, []int{v}, api.Ratio{})
		}
		for k := range 4 {
			region := slices.Repeat([]api.Tent{tent(-64, 0, 64)}, 4)
			region[k] = bad
			checkScalar(t, region, nil, api.Ratio{})
			region[(k+1)%4] = tent(0, 64, 64) // of the value 0
			checkScalar(t, region, nil, api.Ratio{})
		}
	}
}

// anyRegion returns a region of up to 16 tents, few of them not valid, and positions, often too few or too many.
func anyRegion(r *rand.Rand, good, bad []api.Tent) ([]api.Tent, []int) {
	region, at := make([]api.Tent, r.IntN(4)), make([]int, r.IntN(5))
	if r.IntN(4) == 0 {
		region, at = make([]api.Tent, r.IntN(17)), make([]int, r.IntN(20))
	}
	for k := range region {
		region[k] = good[r.IntN(len(good))]
		if r.IntN(40) == 0 {
			region[k] = bad[r.IntN(len(bad))]
		}
	}
	for k := range at {
		at[k] = r.IntN(140) - 70
		// Near the peak, few values are 0.
		if k < len(region) && r.IntN(3) != 0 && region[k].Low < region[k].High && valid(region[k]) {
			at[k] = region[k].Low + r.IntN(region[k].High-region[k].Low)
		}
	}
	return region, at
}

// P5.4, P5.5: all kinds of results come up among these regions.
func TestScalarOfMany(t *testing.T) {
	r := rand.New(rand.NewPCG(52, 5))
	good, bad := tents(), invalid()
	refused, zero, between := 0, 0, 0
	for range 100000 {
		region, at := anyRegion(r, good, bad)
		want := scalarOf(region, at)
		checkScalar(t, region, at, want)
		fits := !slices.ContainsFunc(region, func(x api.Tent) bool { return !valid(x) })
		if axis.Fits(region, len(region)) != fits || axis.Fits(region, len(at)) != (fits && len(at) == len(region)) {
			t.Errorf("Fits of %v", region)
		}
		switch {
		case want == (api.Ratio{}):
			refused++
		case want.N == 0:
			zero++
		case want.N < want.D:
			between++
		}
	}
	if refused < 1000 || zero < 1000 || between < 1000 {
		t.Errorf("refused %d, zero %d, between %d", refused, zero, between)
	}
}
