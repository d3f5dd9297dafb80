package axis_test

import (
	"math"
	"math/big"
	"math/rand/v2"
	"regexp"
	"slices"
	"testing"

	"indelible/api"
	"indelible/axis"
)

// weight is the axis of the document's examples.
var weight = api.Axis{Tag: "wght", Low: 100, Usual: 400, High: 900}

// extremes are integers far beyond all limits.
func extremes() []int {
	return []int{math.MinInt, math.MinInt + 1, math.MinInt + 64, math.MinInt / 2, math.MinInt / 64, -1 << 32, -1002, -1001,
		1001, 1002, 1 << 32, math.MaxInt / 64, math.MaxInt / 2, math.MaxInt - 64, math.MaxInt - 1, math.MaxInt}
}

// rounded returns the greatest integer that is not greater than (2 a + b) / (2 b), for b of at least 1.
func rounded(a, b int) int {
	n := big.NewInt(int64(a))
	n.Mul(n, big.NewInt(2)).Add(n, big.NewInt(int64(b)))
	return int(n.Div(n, big.NewInt(2*int64(b))).Int64()) // the rest is not negative
}

// axes returns valid axes with sides of many lengths, 0 among them.
func axes() []api.Axis {
	var l []api.Axis
	for _, usual := range []int{-1000, -999, -500, -64, -1, 0, 1, 7, 400, 999, 1000} {
		for _, below := range []int{0, 1, 2, 3, 31, 63, 64, 65, 100, 128, 300, 999, 1000, 2000} {
			for _, above := range []int{0, 1, 2, 5, 32, 63, 64, 65, 127, 128, 500, 1000, 1999, 2000} {
				if usual-below >= -1000 && usual+above <= 1000 {
					l = append(l, api.Axis{Tag: "wght", Low: usual - below, Usual: usual, High: usual + above})
				}
			}
		}
	}
	return l
}

var pattern = regexp.MustCompile(`^[a-z]{1,4}$`)

// checked returns the error of the first axis that has one, in the order of the contract.
func checked(l []api.Axis) api.Errno {
	if len(l) > 3 {
		return api.ErrMany
	}
	seen := map[string]bool{}
	for _, a := range l {
		if !pattern.MatchString(a.Tag) {
			return api.ErrName
		}
		if seen[a.Tag] {
			return api.ErrTwice
		}
		seen[a.Tag] = true
		if least, most := min(a.Low, a.Usual, a.High), max(a.Low, a.Usual, a.High); least < -1000 || most > 1000 {
			return api.ErrRange
		}
		if !slices.IsSorted([]int{a.Low, a.Usual, a.High}) {
			return api.ErrOrder
		}
	}
	return api.OK
}

// P5.1: tags.
func TestCheckOfTags(t *testing.T) {
	for _, s := range []string{"a", "z", "wg", "zza", "wght", "aaaa", "zzzz"} {
		if got := axis.Check([]api.Axis{{Tag: s}}); got != api.OK {
			t.Errorf("Check of the tag %q = %v", s, got)
		}
	}
	for _, s := range []string{"", "wghts", "abcdefgh", "Wght", "wghT", "A", "w t", " a", "a ", "a\n", "wgh1", "a-b", "`", "{", "a\x00", "\x00", "\x61\x80", "\xff", "é", "š", "ﬁ", "ａ", "\U00010061"} {
		if got := axis.Check([]api.Axis{{Tag: s}}); got != api.ErrName {
			t.Errorf("Check of the tag %q = %v; want ErrName", s, got)
		}
	}
}

// P5.1: every tag of one byte, and every byte in the tags of more.
func TestCheckOfBytes(t *testing.T) {
	for c := range 256 {
		for _, s := range [][2]string{{"", ""}, {"a", ""}, {"", "a"}, {"ab", "c"}, {"abc", ""}, {"", "abc"}} {
			tag, want := s[0]+string([]byte{byte(c)})+s[1], api.ErrName
			if c >= 'a' && c <= 'z' {
				want = api.OK
			}
			if got := axis.Check([]api.Axis{{Tag: tag}}); got != want {
				t.Errorf("Check of the tag %q = %v; want %v", tag, got, want)
			}
		}
	}
}

// P5.1: numbers.
func TestCheckOfNumbers(t *testing.T) {
	for _, x := range []struct {
		low, usual, high int
		want             api.Errno
	}{
		{0, 0, 0, api.OK},
		{-1000, -1000, -1000, api.OK},
		{1000, 1000, 1000, api.OK},
		{-1000, 0, 1000, api.OK},
		{5, 5, 6, api.OK},
		{5, 6, 6, api.OK},
		{-1001, 0, 1000, api.ErrRange},
		{-1000, 0, 1001, api.ErrRange},
		{-1001, -1001, 0, api.ErrRange},
		{0, 1001, 1001, api.ErrRange},
		{0, -1001, 0, api.ErrRange},
		{0, 1001, 0, api.ErrRange},
		{1001, 0, -1001, api.ErrRange},
		{3, 2, 1001, api.ErrRange},
		{math.MinInt, math.MinInt, math.MinInt, api.ErrRange},
		{math.MaxInt, math.MaxInt, math.MaxInt, api.ErrRange},
		{math.MinInt, 0, math.MaxInt, api.ErrRange},
		{1, 0, 2, api.ErrOrder},
		{0, 2, 1, api.ErrOrder},
		{2, 1, 0, api.ErrOrder},
		{1, 0, 1, api.ErrOrder},
		{1000, 0, -1000, api.ErrOrder},
	} {
		if got := axis.Check([]api.Axis{{Tag: "a", Low: x.low, Usual: x.usual, High: x.high}}); got != x.want {
			t.Errorf("Check of %d, %d, %d = %v; want %v", x.low, x.usual, x.high, got, x.want)
		}
	}
}

// P5.1: the number of axes, and the order of errors.
func TestCheckOfLists(t *testing.T) {
	a, b, c := weight, api.Axis{Tag: "wdth", High: 1}, api.Axis{Tag: "w"}
	badName, badRange, badOrder := api.Axis{Tag: "W", Low: 2000, High: -2000}, api.Axis{Tag: "opsz", Low: 2000}, api.Axis{Tag: "slnt", Low: 1}
	twice := api.Axis{Tag: "wght", Low: 2000}
	for k, x := range []struct {
		l    []api.Axis
		want api.Errno
	}{
		{nil, api.OK},
		{[]api.Axis{}, api.OK},
		{[]api.Axis{a}, api.OK},
		{[]api.Axis{a, b}, api.OK},
		{[]api.Axis{a, b, c}, api.OK},
		{[]api.Axis{a, b, c, {Tag: "ital"}}, api.ErrMany},
		{[]api.Axis{badName, badName, badName, badName}, api.ErrMany},
		{make([]api.Axis, 100000), api.ErrMany},
		{[]api.Axis{a, a}, api.ErrTwice},
		{[]api.Axis{a, b, a}, api.ErrTwice},
		{[]api.Axis{b, a, a}, api.ErrTwice},
		{[]api.Axis{{}, {}}, api.ErrName},
		{[]api.Axis{badName, badName}, api.ErrName},
		{[]api.Axis{a, twice}, api.ErrTwice},
		{[]api.Axis{twice, a}, api.ErrRange},
		{[]api.Axis{badOrder, badOrder}, api.ErrOrder},
		{[]api.Axis{badOrder, badName}, api.ErrOrder},
		{[]api.Axis{badName, badOrder}, api.ErrName},
		{[]api.Axis{badRange, badName}, api.ErrRange},
		{[]api.Axis{a, badRange, badOrder}, api.ErrRange},
		{[]api.Axis{a, badOrder, badRange}, api.ErrOrder},
		{[]api.Axis{a, b, badOrder}, api.ErrOrder},
		{[]api.Axis{a, a, badName}, api.ErrTwice},
	} {
		if got := axis.Check(x.l); got != x.want {
			t.Errorf("%d: Check = %v; want %v", k, got, x.want)
		}
	}
}

// anyAxis returns an axis that is often not valid.
func anyAxis(r *rand.Rand) api.Axis {
	tags := []string{"a", "b", "wght", "wdth", "a", "b", "z", "", "wghts", "B"}
	number := func() int {
		if l := extremes(); r.IntN(20) == 0 {
			return l[r.IntN(len(l))]
		}
		return r.IntN(2003) - 1001
	}
	a := api.Axis{Tag: tags[r.IntN(len(tags))], Low: number(), Usual: number(), High: number()}
	if r.IntN(6) != 0 {
		l := []int{a.Low, a.Usual, a.High}
		slices.Sort(l)
		a.Low, a.Usual, a.High = l[0], l[1], l[2]
	}
	return a
}

// anyAxes returns up to 4 axes.
func anyAxes(r *rand.Rand) []api.Axis {
	l := make([]api.Axis, r.IntN(5))
	for k := range l {
		l[k] = anyAxis(r)
	}
	return l
}

// P5.1: each error and none come up among these lists.
func TestCheckOfMany(t *testing.T) {
	r := rand.New(rand.NewPCG(51, 5))
	times := map[api.Errno]int{}
	for range 50000 {
		l := anyAxes(r)
		got, want := axis.Check(l), checked(l)
		if got != want {
			t.Errorf("Check(%v) = %v; want %v", l, got, want)
		}
		times[got]++
	}
	for _, errno := range []api.Errno{api.OK, api.ErrMany, api.ErrName, api.ErrTwice, api.ErrRange, api.ErrOrder} {
		if times[errno] < 100 {
			t.Errorf("%v came up %d times", errno, times[errno])
		}
	}
}

// normalOf returns what Normal must return for a position on a valid axis.
func normalOf(a api.Axis, user int) int {
	if user < a.Low {
		user = a.Low
	}
	if user > a.High {
		user = a.High
	}
	switch {
	case user < a.Usual:
		return -rounded(64*(a.Usual-user), a.Usual-a.Low)
	case user > a.Usual:
		return rounded(64*(user-a.Usual), a.High-a.Usual)
	}
	return 0
}

// userOf returns what User must return for a position on a valid axis.
func userOf(a api.Axis, n int) int {
	n = min(max(n, -64), 64)
	if n < 0 {
		return a.Usual - rounded(-n*(a.Usual-a.Low), 64)
	}
	return a.Usual + rounded(n*(a.High-a.Usual), 64)
}

func checkNormal(t *testing.T, a api.Axis, user, want int) {
	t.Helper()
	if got, errno := axis.Normal([]api.Axis{a}, []int{user}); errno != api.OK || !slices.Equal(got, []int{want}) {
		t.Errorf("Normal(%v, %d) = %v, %v; want %d", a, user, got, errno, want)
	}
}

func checkUser(t *testing.T, a api.Axis, n, want int) {
	t.Helper()
	if got := axis.User(a, n); got != want {
		t.Errorf("User(%v, %d) = %d; want %d", a, n, got, want)
	}
}

// P5.2: the examples, positions at and beyond the ends, halves on both sides, and sides of length 0.
func TestNormal(t *testing.T) {
	halves, narrow := api.Axis{Tag: "a", Low: -128, High: 128}, api.Axis{Tag: "a", Low: -1, Usual: 0, High: 3}
	point, noLow, noHigh := api.Axis{Tag: "a", Low: 7, Usual: 7, High: 7}, api.Axis{Tag: "a", Low: 7, Usual: 7, High: 9}, api.Axis{Tag: "a", Low: 5, Usual: 7, High: 7}
	whole := api.Axis{Tag: "a", Low: -1000, Usual: 1000, High: 1000}
	for _, x := range []struct {
		a          api.Axis
		user, want int
	}{
		{weight, 100, -64}, {weight, 250, -32}, {weight, 400, 0}, {weight, 500, 13}, {weight, 900, 64}, {weight, 2000, 64},
		{weight, 99, -64}, {weight, 101, -64}, {weight, 899, 64}, {weight, 901, 64}, {weight, 399, 0}, {weight, 401, 0}, {weight, -400, -64},
		{weight, 397, -1}, {weight, 398, 0}, {weight, 403, 0}, {weight, 404, 1},
		{halves, 1, 1}, {halves, 2, 1}, {halves, 3, 2}, {halves, -1, -1}, {halves, -2, -1}, {halves, -3, -2}, {halves, 127, 64}, {halves, -127, -64},
		{narrow, -1, -64}, {narrow, 0, 0}, {narrow, 1, 21}, {narrow, 2, 43}, {narrow, 3, 64}, {narrow, 4, 64}, {narrow, -2, -64},
		{point, 6, 0}, {point, 7, 0}, {point, 8, 0},
		{noLow, 6, 0}, {noLow, 7, 0}, {noLow, 8, 32}, {noLow, 9, 64},
		{noHigh, 4, -64}, {noHigh, 6, -32}, {noHigh, 7, 0}, {noHigh, 8, 0},
		{whole, -1000, -64}, {whole, 0, -32}, {whole, 999, 0}, {whole, 985, 0}, {whole, 984, -1}, {whole, 1000, 0},
		{weight, math.MinInt, -64}, {weight, math.MaxInt, 64}, {noLow, math.MinInt, 0}, {noHigh, math.MaxInt, 0}, {whole, math.MinInt, -64},
	} {
		checkNormal(t, x.a, x.user, x.want)
	}
}

// P5.2
func TestNormalOfAllPositions(t *testing.T) {
	for _, a := range axes() {
		for user := a.Low - 3; user <= a.High+3; user++ {
			checkNormal(t, a, user, normalOf(a, user))
		}
		for _, user := range extremes() {
			checkNormal(t, a, user, normalOf(a, user))
		}
	}
}

// P5.2: each axis has its own position.
func TestNormalOfManyAxes(t *testing.T) {
	width, slant := api.Axis{Tag: "wdth", Low: 50, Usual: 100, High: 200}, api.Axis{Tag: "slnt", Low: -10}
	for _, x := range []struct {
		l          []api.Axis
		user, want []int
	}{
		{nil, nil, nil},
		{[]api.Axis{}, []int{}, nil},
		{[]api.Axis{weight, width}, []int{500, 75}, []int{13, -32}},
		{[]api.Axis{width, weight}, []int{500, 75}, []int{64, -64}},
		{[]api.Axis{weight, width, slant}, []int{400, 150, -5}, []int{0, 32, -32}},
		{[]api.Axis{slant, width, weight}, []int{3, 100, 250}, []int{0, 0, -32}},
	} {
		if got, errno := axis.Normal(x.l, x.user); errno != api.OK || !slices.Equal(got, x.want) {
			t.Errorf("Normal(%v, %v) = %v, %v; want %v", x.l, x.user, got, errno, x.want)
		}
	}
}

// P5.2, R2: the errors of Check come before the number of positions, and none comes with positions.
func TestNormalOfInvalid(t *testing.T) {
	bad := api.Axis{Tag: "a", Low: 1}
	for _, x := range []struct {
		l    []api.Axis
		user []int
		want api.Errno
	}{
		{nil, []int{0}, api.ErrArg},
		{[]api.Axis{weight}, nil, api.ErrArg},
		{[]api.Axis{weight}, []int{}, api.ErrArg},
		{[]api.Axis{weight}, []int{1, 2}, api.ErrArg},
		{[]api.Axis{weight}, make([]int, 100000), api.ErrArg},
		{[]api.Axis{weight, {Tag: "b"}, {Tag: "c"}}, []int{1, 2}, api.ErrArg},
		{[]api.Axis{weight, {Tag: "b"}, {Tag: "c"}}, []int{1, 2, 3, 4}, api.ErrArg},
		{make([]api.Axis, 4), make([]int, 4), api.ErrMany},
		{make([]api.Axis, 4), nil, api.ErrMany},
		{[]api.Axis{{Tag: "?"}}, []int{0}, api.ErrName},
		{[]api.Axis{{Tag: "?"}}, nil, api.ErrName},
		{[]api.Axis{weight, weight}, []int{400, 400}, api.ErrTwice},
		{[]api.Axis{weight, weight}, []int{400}, api.ErrTwice},
		{[]api.Axis{{Tag: "a", High: 1001}}, []int{0}, api.ErrRange},
		{[]api.Axis{{Tag: "a", High: 1001}}, []int{0, 0}, api.ErrRange},
		{[]api.Axis{bad}, []int{0}, api.ErrOrder},
		{[]api.Axis{weight, bad}, []int{0, 0}, api.ErrOrder},
		{[]api.Axis{weight, bad}, nil, api.ErrOrder},
	} {
		if got, errno := axis.Normal(x.l, x.user); errno != x.want || len(got) != 0 {
			t.Errorf("Normal(%v, %d positions) = %v, %v; want %v", x.l, len(x.user), got, errno, x.want)
		}
	}
}

// P5.3: the examples, positions at and beyond the ends, halves on both sides, and sides of length 0.
func TestUser(t *testing.T) {
	one, noLow, noHigh := api.Axis{Tag: "a", Low: 4, Usual: 5, High: 6}, api.Axis{Tag: "a", Low: 7, Usual: 7, High: 9}, api.Axis{Tag: "a", Low: 5, Usual: 7, High: 7}
	whole := api.Axis{Tag: "a", Low: -1000, Usual: -1000, High: 1000}
	for _, x := range []struct {
		a       api.Axis
		n, want int
	}{
		{weight, -64, 100}, {weight, -32, 250}, {weight, 13, 502}, {weight, 0, 400}, {weight, 64, 900},
		{weight, -65, 100}, {weight, 65, 900}, {weight, -1, 395}, {weight, 1, 408}, {weight, -63, 105}, {weight, 63, 892},
		{one, 31, 5}, {one, 32, 6}, {one, 33, 6}, {one, -31, 5}, {one, -32, 4}, {one, -33, 4}, {one, 64, 6}, {one, -64, 4},
		{noLow, -64, 7}, {noLow, -1, 7}, {noLow, 0, 7}, {noLow, 32, 8}, {noLow, 64, 9},
		{noHigh, -64, 5}, {noHigh, -32, 6}, {noHigh, 0, 7}, {noHigh, 1, 7}, {noHigh, 64, 7},
		{whole, 64, 1000}, {whole, 1, -969}, {whole, -64, -1000},
		{weight, math.MinInt, 100}, {weight, math.MaxInt, 900}, {noLow, math.MinInt, 7}, {noHigh, math.MaxInt, 7},
	} {
		checkUser(t, x.a, x.n, x.want)
	}
}

// P5.3
func TestUserOfAllPositions(t *testing.T) {
	for _, a := range axes() {
		for n := -70; n <= 70; n++ {
			checkUser(t, a, n, userOf(a, n))
		}
		for _, n := range extremes() {
			checkUser(t, a, n, userOf(a, n))
		}
	}
}

// P5.3: axes that Check refuses.
func TestUserOfInvalid(t *testing.T) {
	for _, a := range []api.Axis{
		{},
		{Tag: "", Low: 100, Usual: 400, High: 900},
		{Tag: "wghts", Low: 100, Usual: 400, High: 900},
		{Tag: "WGHT", Low: 100, Usual: 400, High: 900},
		{Tag: "wght", Low: 100, Usual: 400, High: 1001},
		{Tag: "wght", Low: -1001, Usual: 400, High: 900},
		{Tag: "wght", Low: 400, Usual: 100, High: 900},
		{Tag: "wght", Low: 100, Usual: 900, High: 400},
		{Tag: "wght", Low: math.MinInt, Usual: 400, High: math.MaxInt},
	} {
		for _, n := range append(extremes(), -64, -1, 0, 1, 13, 64) {
			checkUser(t, a, n, 0)
		}
	}
}
