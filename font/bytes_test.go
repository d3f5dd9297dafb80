package font_test

import (
	"math"
	"slices"
	"strings"
	"testing"

	"indelible/api"
	"indelible/font"
)

// checkBytes compares what Bytes says of a font with what it promises.
func checkBytes(t *testing.T, f api.Font) {
	t.Helper()
	if got, want := font.Bytes(f), joined(tokens(f)); got != want {
		t.Errorf("Bytes(%v) = % .300x, want % .300x", brief(f), got, want)
	}
}

// checkExactly checks the bytes of a font.
func checkExactly(t *testing.T, f api.Font, want []byte) {
	t.Helper()
	if got := []byte(font.Bytes(f)); !slices.Equal(got, want) {
		t.Errorf("Bytes(%v) = %v, want %v", brief(f), got, want)
	}
	checkBytes(t, f)
}

// P10.3: the document's example, and others that were written by hand.
func TestBytesOfSmallFonts(t *testing.T) {
	checkExactly(t, api.Font{Name: "a", Glyphs: []api.Glyph{{Name: "b"}}}, []byte{2, 97, 0, 0, 2, 2, 98, 0, 0, 0, 0, 0, 0, 0, 0, 0})
	checkExactly(t, api.Font{}, []byte{0, 0, 0, 0, 0, 0, 0})
	checkExactly(t, example(), slices.Concat(
		[]byte{8, 's', 'a', 'n', 's', 0},
		[]byte{2, 2, 'w', 6, 0, 0, 200, 1},
		[]byte{4, 10, 'b', 'l', 'a', 'n', 'k', 40, 0, 0, 0, 0, 0},
		[]byte{2, 'a', 80, 2, 18, 0, 0, 2, 64, 0, 2, 0, 64, 2, 0, 0, 0, 0},
		[]byte{4, 194, 1, 2, 0, 0},
	))
}

// P10.3: a font with different numbers in all places.
func TestBytesOfAllFields(t *testing.T) {
	f := api.Font{
		Name:    "xy",
		Version: 1,
		Axes:    []api.Axis{{Tag: "t", Low: 2, Usual: 3, High: 4}},
		Glyphs: []api.Glyph{{
			Name:    "u",
			Advance: 5,
			Outline: contours{{{X: 6, Y: 7, On: true}, {X: 8, Y: 9}}, {{X: 10, Y: 11}}},
			Deltas:  []api.Delta{{Region: []api.Tent{{Low: 12, Peak: 13, High: 14}, {Low: 15, Peak: 16, High: 17}}, Moves: []api.Move{{X: 18, Y: 19}, {X: 20, Y: 21}}}},
			Parts:   []api.Part{{Glyph: 22, X: 23, Y: 24}, {Glyph: 25, X: 26, Y: 27}},
			Hint:    []api.Op{{Code: 28, N: 29, M: 30}, {Code: 31, N: 32, M: 33}},
			Alts:    []int{34, 35},
		}},
		Chars:   []api.Char{{Code: 36, Glyph: 37}, {Code: 38, Glyph: 39}},
		Lookups: []api.Lookup{{}, {Subs: []api.Sub{{Before: []int{40, 41}, From: []int{42, 43}, After: []int{44, 45}, To: 46}}}},
		Kerns:   []api.Kern{{Left: 47, Right: 48, By: 49}, {Left: 50, Right: 51, By: -52}},
	}
	numbers := func(low, high int) []byte {
		var l []byte
		for n := low; n <= high; n++ {
			l = append(l, byte(2*n))
		}
		return l
	}
	checkExactly(t, f, slices.Concat(
		[]byte{4, 'x', 'y', 2},
		[]byte{2, 2, 't', 6}, numbers(2, 4),
		[]byte{2, 2, 'u', 10},
		[]byte{4, 12}, numbers(6, 7), []byte{2}, numbers(8, 9), []byte{0, 6}, numbers(10, 11), []byte{0},
		[]byte{2, 12}, numbers(12, 17), []byte{8}, numbers(18, 21),
		[]byte{12}, numbers(22, 27),
		[]byte{12}, numbers(28, 33),
		[]byte{4}, numbers(34, 35),
		[]byte{8}, numbers(36, 39),
		[]byte{4, 0, 2, 4}, numbers(40, 41), []byte{4}, numbers(42, 43), []byte{4}, numbers(44, 45), numbers(46, 46),
		[]byte{12}, numbers(47, 51), []byte{103},
	))
}

// P10.3: fonts that are valid, and others, with numbers of all lengths.
func TestBytesOfAnyFont(t *testing.T) {
	for _, f := range []api.Font{{}, example(), whole(), largest(), {Name: strings.Repeat("\xffé", 1000), Glyphs: glyphs(300)}} {
		checkBytes(t, f)
	}
	for _, x := range flaws {
		checkBytes(t, with(whole(), x.change))
	}
	f := whole()
	for k := range values(f) {
		for _, change := range changes {
			checkBytes(t, changedAt(f, k, change))
		}
	}
	for _, n := range append([]int{-8193, -8192, -65, -64, -1, 63, 64, 8191, 8192, 1 << 40}, extremes...) {
		checkBytes(t, api.Font{Version: n, Glyphs: []api.Glyph{{Advance: n, Alts: []int{n, -n}, Hint: []api.Op{{Code: n, N: -n, M: ^n}}}}, Kerns: []api.Kern{{Left: n, Right: ^n, By: -n}}})
	}
	checkExactly(t, api.Font{Version: math.MinInt}, []byte{0, 255, 255, 255, 255, 255, 255, 255, 255, 255, 1, 0, 0, 0, 0, 0})
}
