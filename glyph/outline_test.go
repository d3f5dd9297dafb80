package glyph_test

import (
	"slices"
	"testing"

	"indelible/api"
	"indelible/glyph"
)

// arch is an outline with points on the curve and off it.
func arch() contours { return contours{{on(0, 0), off(4, 8), on(8, 0)}} }

// P11.2: with and without contours, deltas and a hint (which a glyph without points never has, as only points take the last number from the stack).
func TestSimpleGlyphs(t *testing.T) {
	wider := []api.Delta{{Region: rising, Moves: []api.Move{{}, {X: 10}, {X: 3, Y: -3}}}}
	rounding := hint("getx 2; round; setx 2")
	for _, x := range []struct {
		g        api.Glyph
		at, size int
		want     contours
	}{
		{api.Glyph{}, 0, 8, nil},
		{api.Glyph{Deltas: []api.Delta{{Region: rising}}}, 64, 24, nil},
		{api.Glyph{Outline: arch()}, 0, 6, contours{{on(0, 0), off(24, 48), on(48, 0)}}},
		{api.Glyph{Outline: arch()}, -64, 24, contours{{on(0, 0), off(96, 192), on(192, 0)}}},
		{api.Glyph{Outline: arch(), Deltas: wider}, 0, 10, contours{{on(0, 0), off(40, 80), on(80, 0)}}},
		{api.Glyph{Outline: arch(), Deltas: wider}, 32, 10, contours{{on(0, 0), off(90, 80), on(100, -10)}}},
		{api.Glyph{Outline: arch(), Deltas: wider}, 64, 10, contours{{on(0, 0), off(140, 80), on(110, -30)}}},
		{api.Glyph{Outline: arch(), Deltas: wider}, -32, 10, contours{{on(0, 0), off(40, 80), on(80, 0)}}},
		{api.Glyph{Outline: arch(), Hint: rounding}, 0, 10, contours{{on(0, 0), off(40, 80), on(64, 0)}}},
		{api.Glyph{Outline: arch(), Hint: rounding}, 64, 12, contours{{on(0, 0), off(48, 96), on(128, 0)}}},
		{api.Glyph{Outline: arch(), Deltas: wider, Hint: rounding}, 32, 10, contours{{on(0, 0), off(90, 80), on(128, -10)}}},
		{api.Glyph{Outline: slices.Concat(arch(), arch()), Hint: hint("push 7; sety 3; push 5; setx 5")}, 0, 7, contours{{on(0, 0), off(28, 56), on(56, 0)}, {on(0, 7), off(28, 56), on(5, 0)}}},
	} {
		f := extended(x.g)
		checkOutline(t, f, 3, []int{x.at}, x.size, x.want, api.OK)
		checkBoth(t, f, 3, []int{x.at}, x.size)
	}
}

// P11.2: the hint is run with the size, after the coordinates were multiplied, and the deltas were applied before that.
func TestOrderOfSteps(t *testing.T) {
	f := extended(
		api.Glyph{Outline: arch(), Hint: hint("size; setx 1")},
		api.Glyph{Outline: arch(), Hint: hint("size; push 12; sub; if 2; push 64; sety 2")},
		api.Glyph{Outline: arch(), Hint: hint("gety 1; half; sety 1"), Deltas: []api.Delta{{Region: rising, Moves: []api.Move{{}, {Y: 1}, {}}}}},
	)
	for size := 6; size <= 24; size++ {
		checkOutline(t, f, 3, []int{0}, size, contours{{on(0, 0), off(size, 8*size), on(8*size, 0)}}, api.OK)
		y := 0
		if size > 12 {
			y = 64
		}
		checkOutline(t, f, 4, []int{0}, size, contours{{on(0, 0), off(4*size, 8*size), on(8*size, y)}}, api.OK)
		checkOutline(t, f, 5, []int{32}, size, contours{{on(0, 0), off(4*size, 9*size/2), on(8*size, 0)}}, api.OK)
	}
}

// P11.2: a delta of each axis, at its position alone.
func TestPositionsOnSeveralAxes(t *testing.T) {
	all := api.Tent{Low: -64, High: 64}
	f := api.Font{
		Name: "sans",
		Axes: []api.Axis{{Tag: "w"}, {Tag: "x"}, {Tag: "y"}},
		Glyphs: []api.Glyph{{Name: "a", Outline: arch(), Deltas: []api.Delta{
			{Region: []api.Tent{rising[0], all, all}, Moves: []api.Move{{X: 64}, {}, {}}},
			{Region: []api.Tent{all, falling[0], all}, Moves: []api.Move{{}, {X: 64}, {}}},
			{Region: []api.Tent{all, rising[0], rising[0]}, Moves: []api.Move{{}, {}, {X: 64}}},
		}}},
	}
	for _, x := range []struct {
		at   []int
		want [3]int
	}{
		{[]int{0, 0, 0}, [3]int{0, 4, 8}},
		{[]int{5, 0, 0}, [3]int{5, 4, 8}},
		{[]int{64, -7, 64}, [3]int{64, 11, 8}},
		{[]int{-64, -64, 0}, [3]int{0, 68, 8}},
		{[]int{1, 32, 32}, [3]int{1, 4, 24}},
		{[]int{0, 64, 64}, [3]int{0, 4, 72}},
		{[]int{0, 64, -64}, [3]int{0, 4, 8}},
	} {
		want := contours{{on(6*x.want[0], 0), off(6*x.want[1], 48), on(6*x.want[2], 0)}}
		checkOutline(t, f, 0, x.at, 6, want, api.OK)
	}
}

// P11.2: the largest coordinates of a valid font.
func TestLargestCoordinates(t *testing.T) {
	far := []api.Move{{X: 512, Y: -512}, {X: -512, Y: 512}, {X: 512, Y: 512}}
	f := extended(api.Glyph{
		Outline: contours{{on(512, -512), on(-512, 512), off(512, 512)}},
		Deltas:  slices.Repeat([]api.Delta{{Region: rising, Moves: far}}, 8),
	})
	checkOutline(t, f, 3, []int{64}, 24, contours{{on(110592, -110592), on(-110592, 110592), off(110592, 110592)}}, api.OK)
	checkDraw(t, f, 3, []int{64}, 24, api.Picture{}, api.ErrSize)
}

// parts returns the font of the examples with a composite glyph, the glyph 3.
func parts(l ...api.Part) api.Font { return extended(api.Glyph{Parts: l}) }

// P11.3: one part, two and four, the same one twice, and none that has contours.
func TestCompositeGlyphs(t *testing.T) {
	bar := rectangle(64, 0, 192, 384)
	for _, x := range []struct {
		l    []api.Part
		want contours
	}{
		{[]api.Part{{Glyph: 1}}, bar},
		{[]api.Part{{Glyph: 1, X: 8, Y: 16}}, rectangle(128, 128, 256, 512)},
		{[]api.Part{{Glyph: 1, X: -16, Y: -8}}, rectangle(-64, -64, 64, 320)},
		{[]api.Part{{Glyph: 1}, {Glyph: 1}}, slices.Concat(bar, bar)},
		{[]api.Part{{Glyph: 1, X: 8}, {Glyph: 1}}, slices.Concat(moved(bar, 64, 0), bar)},
		{[]api.Part{{Glyph: 1}, {Glyph: 0, X: 99}, {Glyph: 2, Y: 8}, {Glyph: 1, X: -512, Y: 512}}, slices.Concat(bar, moved(bar, 0, 64), moved(bar, 256, 64), moved(bar, -4096, 4096))},
		{[]api.Part{{Glyph: 0, X: 8}}, nil},
		{[]api.Part{{Glyph: 0}, {Glyph: 0}}, nil},
	} {
		checkOutline(t, parts(x.l...), 3, []int{0}, 8, x.want, api.OK)
		checkBoth(t, parts(x.l...), 3, []int{0}, 8)
	}
}

// P11.3: parts are moved by the whole dots that are nearest, by more of two.
func TestPlacesOfParts(t *testing.T) {
	for _, x := range []struct{ units, size, dots int }{
		{0, 8, 0}, {1, 8, 0}, {3, 8, 0}, {4, 8, 1}, {5, 8, 1}, {8, 8, 1}, {11, 8, 1}, {12, 8, 2},
		{-1, 8, 0}, {-3, 8, 0}, {-4, 8, 0}, {-5, 8, -1}, {-11, 8, -1}, {-12, 8, -1}, {-13, 8, -2},
		{5, 6, 0}, {6, 6, 1}, {-5, 6, 0}, {-6, 6, -1}, {16, 6, 2}, {-16, 6, -1},
		{1, 24, 0}, {2, 24, 1}, {-1, 24, 0}, {-2, 24, -1}, {4, 24, 2}, {-4, 24, -1},
		{512, 24, 192}, {-512, 24, -192}, {511, 7, 56}, {-511, 7, -56}, {512, 7, 56},
	} {
		f := parts(api.Part{Glyph: 1, X: x.units}, api.Part{Glyph: 1, Y: x.units})
		bar, errno := glyph.Outline(f, 1, []int{0}, x.size)
		if errno != api.OK {
			t.Fatalf("the bar has the error %v", errno)
		}
		want := slices.Concat(moved(bar, 64*x.dots, 0), moved(bar, 0, 64*x.dots))
		checkOutline(t, f, 3, []int{0}, x.size, want, api.OK)
	}
}

// P11.3: all places, at all sizes.
func TestAllPlacesOfParts(t *testing.T) {
	f := parts(api.Part{Glyph: 1})
	for size := 6; size <= 24; size++ {
		for n := -512; n <= 512; n += 3 {
			f.Glyphs[3].Parts[0] = api.Part{Glyph: 1, X: n, Y: n / 2}
			got, errno := glyph.Outline(f, 3, []int{0}, size)
			if want := made(t, f, 3, []int{0}, size); errno != api.OK || !equal(got, want) {
				t.Errorf("the part at %d is %v at the size %d, %v; want %v", n, got, size, errno, want)
			}
		}
	}
}

// P11.3: glyphs of the depths 1 to 3. Each place is rounded by itself.
func TestDepths(t *testing.T) {
	f := extended(
		api.Glyph{Parts: []api.Part{{Glyph: 1, X: 3, Y: -3}}},
		api.Glyph{Parts: []api.Part{{Glyph: 3, X: 3, Y: -3}}},
		api.Glyph{Parts: []api.Part{{Glyph: 4, X: 3, Y: -3}}},
		api.Glyph{Parts: []api.Part{{Glyph: 4, X: 4, Y: -5}, {Glyph: 1}, {Glyph: 3, X: -8}, {Glyph: 0}}},
		api.Glyph{Parts: []api.Part{{Glyph: 2, X: 4}, {Glyph: 3}}},
		api.Glyph{Parts: []api.Part{{Glyph: 7, Y: 4}, {Glyph: 7, X: 4}}},
	)
	bar := rectangle(64, 0, 192, 384)
	for g := 3; g <= 5; g++ {
		checkOutline(t, f, g, []int{0}, 8, bar, api.OK)
	}
	checkOutline(t, f, 6, []int{0}, 8, slices.Concat(moved(bar, 64, -64), bar, moved(bar, -64, 0)), api.OK)
	three := slices.Concat(moved(bar, 64, 0), moved(bar, 320, 0), bar)
	checkOutline(t, f, 7, []int{0}, 8, three, api.OK)
	checkOutline(t, f, 8, []int{0}, 8, slices.Concat(moved(three, 0, 64), moved(three, 64, 0)), api.OK)
	for g := range f.Glyphs {
		for size := 6; size <= 24; size++ {
			checkBoth(t, f, g, []int{size}, size)
		}
	}
}

// P11.3: as many contours as a glyph can have.
func TestMostParts(t *testing.T) {
	four := func(g int) api.Glyph {
		return api.Glyph{Parts: []api.Part{{Glyph: g}, {Glyph: g, X: 20, Y: 1}, {Glyph: g, X: -20}, {Glyph: g, Y: -40}}}
	}
	f := extended(api.Glyph{Outline: slices.Repeat(slices.Concat(arch(), rectangle(9, 9, 20, 30)), 4)}, four(3), four(4), four(5))
	o, errno := glyph.Outline(f, 6, []int{0}, 9)
	if errno != api.OK || len(o) != 64*8 {
		t.Errorf("there are %d contours, %v", len(o), errno)
	}
	if checkBoth(t, f, 6, []int{0}, 9) != api.OK {
		t.Error("it cannot be drawn")
	}
}

// P11.3: parts are made at the same position and size, and hinted before they are moved.
func TestPartsAtPositionsAndSizes(t *testing.T) {
	f := parts(api.Part{Glyph: 1, X: 7, Y: 9}, api.Part{Glyph: 2, X: -7, Y: -9})
	first := contours{{on(64, 0), on(168, 0), on(168, 288), on(48, 288)}}
	bars := slices.Concat(first, moved(first, 192, 0))
	checkOutline(t, f, 2, []int{32}, 6, bars, api.OK)
	checkOutline(t, f, 3, []int{32}, 6, slices.Concat(moved(first, 64, 64), moved(bars, -64, -64)), api.OK)
	f.Glyphs[1].Hint = hint("size; setx 0; push 1; sety 0")
	first[0][0] = on(6, 1)
	bars = slices.Concat(first, moved(first, 192, 0))
	checkOutline(t, f, 3, []int{32}, 6, slices.Concat(moved(first, 64, 64), moved(bars, -64, -64)), api.OK)
}
