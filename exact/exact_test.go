package exact_test

import (
	"math"
	"math/big"
	"math/rand/v2"
	"testing"

	"indelible/api"
	"indelible/exact"
)

const least, most = math.MinInt, math.MaxInt

// edges are numbers around 0, around the bounds of words and half words, and around the squares of which products go beyond 64 bits.
var edges = []int{
	least, least + 1, least + 2, -1 << 62, -1<<62 - 1, -3037000500, -1 << 32, -1<<31 - 1,
	-64, -7, -6, -3, -2, -1, 0, 1, 2, 3, 5, 6, 10, 64,
	1<<31 - 1, 1 << 32, 1<<32 + 1, 3037000499, 1<<62 - 1, 1 << 62, 1<<62 + 1, most - 2, most - 1, most,
}

// numbers returns n numbers of all lengths in bits, always the same ones for a seed.
func numbers(seed uint64, n int) []int {
	r := rand.New(rand.NewPCG(seed, 1))
	l := make([]int, n)
	for k := range l {
		l[k] = int(r.Uint64()) >> r.IntN(64)
	}
	return l
}

// ratios returns the ratios of two edges that are valid, and some that are not.
func ratios() []api.Ratio {
	few := []int{least, -1 << 62, -6, -1, 0, 1, 2, 3, 4, 6, 15, 1 << 31, 1 << 62, most - 1, most}
	var l []api.Ratio
	for _, n := range few {
		for _, d := range few {
			if d > 0 || n == 0 || n == 1 {
				l = append(l, api.Ratio{N: n, D: d})
			}
		}
	}
	return l
}

// manyRatios returns n valid ratios, always the same ones for a seed.
func manyRatios(seed uint64, n int) []api.Ratio {
	l := make([]api.Ratio, 0, n)
	for x := numbers(seed, 2*n); len(x) > 0; x = x[2:] {
		l = append(l, api.Ratio{N: x[0], D: max(x[1]&most, 1)})
	}
	return l
}

func number(n int) *big.Int { return big.NewInt(int64(n)) }

func rational(x api.Ratio) *big.Rat { return big.NewRat(int64(x.N), int64(x.D)) }

// floor returns the greatest integer that is not greater than a / b, and whether it is an int.
func floor(a, b *big.Int) (int, bool) {
	if b.Sign() == 0 {
		return 0, false
	}
	if b.Sign() < 0 {
		a, b = new(big.Int).Neg(a), new(big.Int).Neg(b)
	}
	q := new(big.Int).Div(a, b) // the rest is not negative
	if !q.IsInt64() {
		return 0, false
	}
	return int(q.Int64()), true
}

// lowest returns a rational number as a ratio, and whether its numbers are ints.
func lowest(x *big.Rat) (api.Ratio, bool) {
	if !x.Num().IsInt64() || !x.Denom().IsInt64() {
		return api.Ratio{}, false
	}
	return api.Ratio{N: int(x.Num().Int64()), D: int(x.Denom().Int64())}, true
}

func checkFloor(t *testing.T, a, b int) {
	t.Helper()
	want, fine := floor(number(a), number(b))
	if got, ok := exact.Floor(a, b); got != want || ok != fine {
		t.Errorf("Floor(%d, %d) = %d, %v; want %d, %v", a, b, got, ok, want, fine)
	}
}

// P1.1
func TestFloor(t *testing.T) {
	for _, x := range []struct {
		a, b, want int
		ok         bool
	}{
		{-7, 2, -4, true},
		{7, -2, -4, true},
		{least, -1, 0, false},
		{5, 0, 0, false},
		{7, 2, 3, true},
		{-7, -2, 3, true},
		{-6, 3, -2, true},
		{0, least, 0, true},
		{least, least, 1, true},
		{least, 1, least, true},
		{least + 1, -1, most, true},
		{most, least, -1, true},
		{-1, most, -1, true},
		{1, most, 0, true},
		{least, 0, 0, false},
		{0, 0, 0, false},
	} {
		if got, ok := exact.Floor(x.a, x.b); got != x.want || ok != x.ok {
			t.Errorf("Floor(%d, %d) = %d, %v; want %d, %v", x.a, x.b, got, ok, x.want, x.ok)
		}
	}
	for _, a := range edges {
		for _, b := range edges {
			checkFloor(t, a, b)
		}
	}
	for x := numbers(11, 20000); len(x) > 0; x = x[2:] {
		checkFloor(t, x[0], x[1])
	}
}

func checkRound(t *testing.T, a, b int) {
	t.Helper()
	want, fine := 0, false
	if b >= 1 {
		two := number(2)
		up := new(big.Int).Add(new(big.Int).Mul(two, number(a)), number(b))
		want, fine = floor(up, new(big.Int).Mul(two, number(b)))
		if !fine {
			t.Fatalf("the rounded ratio of %d and %d is not an int", a, b)
		}
	}
	if got, ok := exact.Round(a, b); got != want || ok != fine {
		t.Errorf("Round(%d, %d) = %d, %v; want %d, %v", a, b, got, ok, want, fine)
	}
}

// P1.2
func TestRound(t *testing.T) {
	for _, x := range []struct {
		a, b, want int
		ok         bool
	}{
		{5, 2, 3, true},
		{-5, 2, -2, true},
		{-7, 3, -2, true},
		{most, 2, 1 << 62, true},
		{7, 3, 2, true},
		{8, 3, 3, true},
		{-8, 3, -3, true},
		{1, 2, 1, true},
		{-1, 2, 0, true},
		{-3, 2, -1, true},
		{0, 1, 0, true},
		{most, 1, most, true},
		{least, 1, least, true},
		{least, 2, -1 << 62, true},
		{1 << 62, most, 1, true},
		{1<<62 - 1, most, 0, true},
		{-1 << 62, most, -1, true},
		{1 - 1<<62, most, 0, true},
		{5, 0, 0, false},
		{5, -2, 0, false},
		{0, least, 0, false},
	} {
		if got, ok := exact.Round(x.a, x.b); got != x.want || ok != x.ok {
			t.Errorf("Round(%d, %d) = %d, %v; want %d, %v", x.a, x.b, got, ok, x.want, x.ok)
		}
	}
	for _, a := range edges {
		for _, b := range edges {
			checkRound(t, a, b)
		}
	}
	for x := numbers(12, 20000); len(x) > 0; x = x[2:] {
		checkRound(t, x[0], x[1])
	}
}

func checkMulDiv(t *testing.T, a, b, c int) {
	t.Helper()
	want, fine := 0, false
	if c >= 1 {
		want, fine = floor(new(big.Int).Mul(number(a), number(b)), number(c))
	}
	if got, ok := exact.MulDiv(a, b, c); got != want || ok != fine {
		t.Errorf("MulDiv(%d, %d, %d) = %d, %v; want %d, %v", a, b, c, got, ok, want, fine)
	}
}

// P1.3
func TestMulDiv(t *testing.T) {
	for _, x := range []struct {
		a, b, c, want int
		ok            bool
	}{
		{1 << 62, 6, 8, 3458764513820540928, true},
		{-7, 1, 2, -4, true},
		{1 << 62, 2, 1, 0, false},
		{-1 << 62, 2, 1, least, true},
		{7, -1, 2, -4, true},
		{-7, -1, 2, 3, true},
		{0, least, 5, 0, true},
		{most, most, most, most, true},
		{least, most, most, least, true},
		{least, -1, 1, 0, false},
		{least, -1, 2, 1 << 62, true},
		{least, least, most, 0, false},
		{most, most, 1, 0, false},
		{least, most, 1, 0, false},
		{-1, 1, most, -1, true},
		{1<<62 + 1, -2, 1, 0, false},
		{4, 4, 0, 0, false},
		{4, 4, -2, 0, false},
		{4, 4, least, 0, false},
	} {
		if got, ok := exact.MulDiv(x.a, x.b, x.c); got != x.want || ok != x.ok {
			t.Errorf("MulDiv(%d, %d, %d) = %d, %v; want %d, %v", x.a, x.b, x.c, got, ok, x.want, x.ok)
		}
	}
	for _, a := range edges {
		for _, b := range edges {
			for _, c := range edges {
				checkMulDiv(t, a, b, c)
			}
		}
	}
	for x := numbers(13, 60000); len(x) > 0; x = x[3:] {
		checkMulDiv(t, x[0], x[1], x[2])
	}
}

func checkCmp(t *testing.T, x, y api.Ratio) {
	t.Helper()
	want := 0
	if x.D >= 1 && y.D >= 1 {
		want = rational(x).Cmp(rational(y))
	}
	if got := exact.Cmp(x, y); got != want {
		t.Errorf("Cmp(%v, %v) = %d; want %d", x, y, got, want)
	}
}

// P1.4
func TestCmp(t *testing.T) {
	for _, x := range []struct {
		x, y api.Ratio
		want int
	}{
		{api.Ratio{N: 1, D: 3}, api.Ratio{N: 2, D: 6}, 0},
		{api.Ratio{N: -1, D: 2}, api.Ratio{N: 1, D: 3}, -1},
		{api.Ratio{N: 1, D: 0}, api.Ratio{N: 1, D: 1}, 0},
		{api.Ratio{N: most, D: most - 1}, api.Ratio{N: most - 1, D: most - 2}, -1},
		{api.Ratio{N: most - 1, D: most - 2}, api.Ratio{N: most, D: most - 1}, 1},
		{api.Ratio{N: -1, D: 3}, api.Ratio{N: -1, D: 2}, 1},
		{api.Ratio{N: 0, D: 3}, api.Ratio{N: 0, D: 5}, 0},
		{api.Ratio{N: least, D: 1}, api.Ratio{N: most, D: 1}, -1},
		{api.Ratio{N: most, D: most}, api.Ratio{N: least, D: most}, 1},
		{api.Ratio{N: 1, D: most}, api.Ratio{N: 0, D: 1}, 1},
		{api.Ratio{N: 5, D: 1}, api.Ratio{N: 4, D: -1}, 0},
		{api.Ratio{N: 5, D: least}, api.Ratio{N: 4, D: 1}, 0},
		{api.Ratio{}, api.Ratio{N: 4, D: 1}, 0},
	} {
		if got := exact.Cmp(x.x, x.y); got != x.want {
			t.Errorf("Cmp(%v, %v) = %d; want %d", x.x, x.y, got, x.want)
		}
	}
	all := ratios()
	for _, x := range all {
		for _, y := range all {
			checkCmp(t, x, y)
		}
	}
	for x := manyRatios(14, 20000); len(x) > 0; x = x[2:] {
		checkCmp(t, x[0], x[1])
	}
}

func checkLowest(t *testing.T, x api.Ratio) {
	t.Helper()
	want, fine := api.Ratio{}, false
	if x.D >= 1 {
		want, fine = lowest(rational(x))
	}
	if got, ok := exact.Lowest(x); got != want || ok != fine {
		t.Errorf("Lowest(%v) = %v, %v; want %v, %v", x, got, ok, want, fine)
	}
}

// P1.5
func TestLowest(t *testing.T) {
	for _, x := range []struct {
		x, want api.Ratio
		ok      bool
	}{
		{api.Ratio{N: -6, D: 4}, api.Ratio{N: -3, D: 2}, true},
		{api.Ratio{N: 0, D: 7}, api.Ratio{N: 0, D: 1}, true},
		{api.Ratio{N: 1, D: -2}, api.Ratio{}, false},
		{api.Ratio{N: 6, D: 4}, api.Ratio{N: 3, D: 2}, true},
		{api.Ratio{N: 4, D: 6}, api.Ratio{N: 2, D: 3}, true},
		{api.Ratio{N: 0, D: most}, api.Ratio{N: 0, D: 1}, true},
		{api.Ratio{N: least, D: 1 << 62}, api.Ratio{N: -2, D: 1}, true},
		{api.Ratio{N: least, D: 1}, api.Ratio{N: least, D: 1}, true},
		{api.Ratio{N: least, D: most}, api.Ratio{N: least, D: most}, true},
		{api.Ratio{N: most, D: most}, api.Ratio{N: 1, D: 1}, true},
		{api.Ratio{N: 3, D: 0}, api.Ratio{}, false},
		{api.Ratio{}, api.Ratio{}, false},
		{api.Ratio{N: 4, D: least}, api.Ratio{}, false},
	} {
		if got, ok := exact.Lowest(x.x); got != x.want || ok != x.ok {
			t.Errorf("Lowest(%v) = %v, %v; want %v, %v", x.x, got, ok, x.want, x.ok)
		}
	}
	for _, n := range edges {
		for _, d := range edges {
			checkLowest(t, api.Ratio{N: n, D: d})
		}
	}
	for _, x := range manyRatios(15, 20000) {
		checkLowest(t, x)
	}
}

// operation is Sum or Mul beside the same operation on rational numbers without bounds.
type operation struct {
	name string
	call func(x, y api.Ratio) (api.Ratio, bool)
	want func(z, x, y *big.Rat) *big.Rat
}

var operations = []operation{{"Sum", exact.Sum, (*big.Rat).Add}, {"Mul", exact.Mul, (*big.Rat).Mul}}

func (o operation) check(t *testing.T, x, y api.Ratio) {
	t.Helper()
	want, fine := api.Ratio{}, false
	if x.D >= 1 && y.D >= 1 {
		want, fine = lowest(o.want(new(big.Rat), rational(x), rational(y)))
	}
	if got, ok := o.call(x, y); got != want || ok != fine {
		t.Errorf("%s(%v, %v) = %v, %v; want %v, %v", o.name, x, y, got, ok, want, fine)
	}
}

// P1.6
func TestSumAndMul(t *testing.T) {
	all := ratios()
	for _, o := range operations {
		for _, x := range all {
			for _, y := range all {
				o.check(t, x, y)
			}
		}
		for x := manyRatios(16, 20000); len(x) > 0; x = x[2:] {
			o.check(t, x[0], x[1])
		}
	}
}

// P1.6
func TestSumExamples(t *testing.T) {
	for _, x := range []struct {
		x, y, want api.Ratio
		ok         bool
	}{
		{api.Ratio{N: 1, D: 6}, api.Ratio{N: 1, D: 10}, api.Ratio{N: 4, D: 15}, true},
		{api.Ratio{N: 1, D: 1 << 62}, api.Ratio{N: 1, D: 3}, api.Ratio{}, false},
		{api.Ratio{N: 1, D: 6}, api.Ratio{N: -2, D: 12}, api.Ratio{N: 0, D: 1}, true},
		{api.Ratio{N: 2, D: 4}, api.Ratio{N: 3, D: 6}, api.Ratio{N: 1, D: 1}, true},
		{api.Ratio{N: most, D: 1}, api.Ratio{N: 1, D: 1}, api.Ratio{}, false},
		{api.Ratio{N: least, D: 1}, api.Ratio{N: -1, D: 1}, api.Ratio{}, false},
		{api.Ratio{N: least, D: 1}, api.Ratio{N: most, D: 1}, api.Ratio{N: -1, D: 1}, true},
		{api.Ratio{N: most, D: 2}, api.Ratio{N: most, D: 2}, api.Ratio{N: most, D: 1}, true},
		{api.Ratio{N: least, D: most}, api.Ratio{N: most, D: most}, api.Ratio{N: -1, D: most}, true},
		{api.Ratio{N: 1, D: 0}, api.Ratio{N: 1, D: 3}, api.Ratio{}, false},
		{api.Ratio{N: 1, D: 3}, api.Ratio{N: 1, D: -3}, api.Ratio{}, false},
	} {
		if got, ok := exact.Sum(x.x, x.y); got != x.want || ok != x.ok {
			t.Errorf("Sum(%v, %v) = %v, %v; want %v, %v", x.x, x.y, got, ok, x.want, x.ok)
		}
	}
}

// P1.6
func TestMulExamples(t *testing.T) {
	for _, x := range []struct {
		x, y, want api.Ratio
		ok         bool
	}{
		{api.Ratio{N: 2, D: 3}, api.Ratio{N: 3, D: 4}, api.Ratio{N: 1, D: 2}, true},
		{api.Ratio{N: 1 << 62, D: 1}, api.Ratio{N: 4, D: 1}, api.Ratio{}, false},
		{api.Ratio{N: 1 << 62, D: 1}, api.Ratio{N: -2, D: 1}, api.Ratio{N: least, D: 1}, true},
		{api.Ratio{N: 1 << 62, D: 1}, api.Ratio{N: 2, D: 1}, api.Ratio{}, false},
		{api.Ratio{N: least, D: most}, api.Ratio{N: most, D: 1 << 62}, api.Ratio{N: -2, D: 1}, true},
		{api.Ratio{N: least, D: 1}, api.Ratio{N: -1, D: 2}, api.Ratio{N: 1 << 62, D: 1}, true},
		{api.Ratio{N: 1, D: 1 << 32}, api.Ratio{N: 1, D: 1 << 31}, api.Ratio{}, false},
		{api.Ratio{N: 0, D: most}, api.Ratio{N: least, D: most - 1}, api.Ratio{N: 0, D: 1}, true},
		{api.Ratio{N: 1, D: 0}, api.Ratio{N: 1, D: 3}, api.Ratio{}, false},
		{api.Ratio{N: 0, D: 3}, api.Ratio{N: 1, D: least}, api.Ratio{}, false},
	} {
		if got, ok := exact.Mul(x.x, x.y); got != x.want || ok != x.ok {
			t.Errorf("Mul(%v, %v) = %v, %v; want %v, %v", x.x, x.y, got, ok, x.want, x.ok)
		}
	}
}
