package glyph_test

import (
	"math"
	"slices"
	"testing"

	"indelible/api"
)

// slow is a program for one point or more that takes 1041 steps.
const slow = "loop 16 5; loop 16 4; size; setx 0; size; setx 0"

// P11.1: fonts that are not valid in each of their tables. The glyphs that are asked for have nothing to do with it.
func TestInvalidFonts(t *testing.T) {
	for name, change := range map[string]func(f *api.Font){
		"name":               func(f *api.Font) { f.Name = "Sans" },
		"version":            func(f *api.Font) { f.Version = -1 },
		"axes":               func(f *api.Font) { f.Axes[0].High = 1001 },
		"too many axes":      func(f *api.Font) { f.Axes = make([]api.Axis, 4) },
		"no glyphs":          func(f *api.Font) { f.Glyphs = nil },
		"97 glyphs":          func(f *api.Font) { f.Glyphs = append(f.Glyphs, make([]api.Glyph, 93)...) },
		"name of a glyph":    func(f *api.Font) { f.Glyphs[3].Name = "" },
		"same name twice":    func(f *api.Font) { f.Glyphs[3].Name = "bar" },
		"advance":            func(f *api.Font) { f.Glyphs[3].Advance = 513 },
		"outline and parts":  func(f *api.Font) { f.Glyphs[2].Outline = rectangle(0, 0, 9, 9) },
		"deltas and parts":   func(f *api.Font) { f.Glyphs[2].Deltas = []api.Delta{{Region: rising}} },
		"hint and parts":     func(f *api.Font) { f.Glyphs[2].Hint = hint("size; if 1; size") },
		"five parts":         func(f *api.Font) { f.Glyphs[2].Parts = make([]api.Part, 5) },
		"part of itself":     func(f *api.Font) { f.Glyphs[2].Parts[1].Glyph = 2 },
		"later part":         func(f *api.Font) { f.Glyphs[2].Parts[1].Glyph = 3 },
		"part that is none":  func(f *api.Font) { f.Glyphs[2].Parts[0].Glyph = -1 },
		"part far away":      func(f *api.Font) { f.Glyphs[2].Parts[1].X = 513 },
		"depth 4":            func(f *api.Font) { f.Glyphs = append(f.Glyphs, nested()...) },
		"outline":            func(f *api.Font) { f.Glyphs[3].Outline[0][0].On = false },
		"short contour":      func(f *api.Font) { f.Glyphs[3].Outline[0] = nil },
		"point":              func(f *api.Font) { f.Glyphs[1].Outline[0][2].Y = -513 },
		"nine deltas":        func(f *api.Font) { f.Glyphs[1].Deltas = slices.Repeat(f.Glyphs[1].Deltas, 9) },
		"region":             func(f *api.Font) { f.Glyphs[1].Deltas[0].Region[0].Peak = 65 },
		"regions":            func(f *api.Font) { f.Axes = nil },
		"moves":              func(f *api.Font) { f.Glyphs[1].Deltas[0].Moves = make([]api.Move, 5) },
		"move":               func(f *api.Font) { f.Glyphs[1].Deltas[0].Moves[0].X = 513 },
		"hint without point": func(f *api.Font) { f.Glyphs[1].Hint[2].N = 4 },
		"hint":               func(f *api.Font) { f.Glyphs[3].Hint = hint("size") },
		"slow hint":          func(f *api.Font) { f.Glyphs[3].Hint = hint(slow + "; " + slow) },
		"alternates":         func(f *api.Font) { f.Glyphs[3].Alts = []int{3} },
		"characters":         func(f *api.Font) { f.Chars = []api.Char{{Code: 'A'}} },
		"lookups":            func(f *api.Font) { f.Lookups = []api.Lookup{{Subs: []api.Sub{{}}}} },
		"kerning pairs":      func(f *api.Font) { f.Kerns = []api.Kern{{By: 65}} },
	} {
		t.Run(name, func(t *testing.T) {
			f := extended(api.Glyph{Outline: rectangle(0, 0, 40, 40), Hint: hint(slow)})
			for g := range f.Glyphs {
				if checkBoth(t, f, g, []int{0}, 8) != api.OK {
					t.Fatalf("the glyph %d of the valid font has an error", g)
				}
			}
			change(&f)
			for g := range 4 {
				checkError(t, f, g, []int{0}, 8, api.ErrArg)
			}
		})
	}
	checkError(t, api.Font{}, 0, nil, 8, api.ErrArg)
}

// nested returns glyphs from the index 4 on, of the depths 2 to 4.
func nested() []api.Glyph {
	return []api.Glyph{
		{Name: "x", Parts: []api.Part{{Glyph: 2}}},
		{Name: "xx", Parts: []api.Part{{Glyph: 1}, {Glyph: 4}}},
		{Name: "xxx", Parts: []api.Part{{Glyph: 5}}},
	}
}

// P11.1
func TestGlyphsThatAreNone(t *testing.T) {
	f := extended(api.Glyph{Outline: rectangle(0, 0, 40, 40)})
	for _, g := range append([]int{-2, -1, 4, 5, 96, 97}, extremes...) {
		checkError(t, f, g, []int{0}, 8, api.ErrGlyph)
	}
	for _, g := range []int{0, 3} {
		if checkBoth(t, f, g, []int{0}, 8) != api.OK {
			t.Errorf("the glyph %d has an error", g)
		}
	}
}

// P11.1: all glyphs of the largest font.
func TestAllGlyphs(t *testing.T) {
	f := extended(make([]api.Glyph, 93)...)
	f.Glyphs[95].Outline = rectangle(8, 8, 16, 16)
	for g := range f.Glyphs {
		if checkBoth(t, f, g, []int{0}, 8) != api.OK {
			t.Errorf("the glyph %d has an error", g)
		}
	}
	checkDraw(t, f, 95, []int{0}, 8, picture(1, 1, "..", "#."), api.OK)
	checkError(t, f, 96, []int{0}, 8, api.ErrGlyph)
}

// P11.1
func TestSizes(t *testing.T) {
	for _, size := range append([]int{-6, -1, 0, 1, 5, 25, 26, 64}, extremes...) {
		checkError(t, example(), 1, []int{0}, size, api.ErrSize)
		checkError(t, example(), 0, []int{0}, size, api.ErrSize)
	}
	for size := 6; size <= 24; size++ {
		for g := range 3 {
			if checkBoth(t, example(), g, []int{0}, size) != api.OK {
				t.Errorf("the glyph %d has an error at the size %d", g, size)
			}
		}
	}
}

// axes returns the font of the examples without deltas, with so many axes.
func axes(n int) api.Font {
	return with(example(), func(f *api.Font) {
		f.Axes = []api.Axis{{Tag: "w", High: 64}, {Tag: "x", Low: -1000}, {Tag: "y"}}[:n]
		f.Glyphs[1].Deltas = nil
	})
}

// P11.1: as many positions as axes, and others.
func TestNumbersOfPositions(t *testing.T) {
	for n := range 4 {
		for positions := range 7 {
			for g := range 3 {
				at := make([]int, positions)
				if positions != n {
					checkError(t, axes(n), g, at, 8, api.ErrRegion)
				} else if checkBoth(t, axes(n), g, at, 8) != api.OK {
					t.Errorf("there is an error at %v for %d axes", at, n)
				}
			}
		}
	}
}

// P11.1: positions at the ends of their range and beyond, on each axis.
func TestPositions(t *testing.T) {
	for n := 1; n <= 3; n++ {
		for k := range n {
			at := make([]int, n)
			for _, at[k] = range append([]int{-66, -65, 65, 66}, extremes...) {
				checkError(t, axes(n), 1, at, 8, api.ErrRegion)
				checkError(t, axes(n), 0, at, 8, api.ErrRegion)
			}
			for _, at[k] = range []int{-64, -63, -1, 1, 63, 64} {
				if checkBoth(t, axes(n), 1, at, 8) != api.OK {
					t.Errorf("there is an error at %v", at)
				}
			}
		}
		ends := slices.Repeat([]int{64}, n)
		if checkBoth(t, axes(n), 2, ends, 8) != api.OK {
			t.Errorf("there is an error at %v", ends)
		}
	}
	for at := -64; at <= 64; at++ {
		if checkBoth(t, example(), 2, []int{at}, 8) != api.OK {
			t.Errorf("there is an error at %d", at)
		}
	}
}

// P11.1, R2: all errors at once, in each way, and without the first ones.
func TestOrderOfErrors(t *testing.T) {
	invalid := with(example(), func(f *api.Font) { f.Kerns = make([]api.Kern, 2) })
	for _, f := range []api.Font{invalid, example()} {
		for _, g := range []int{-1, math.MinInt, 3, math.MaxInt, 0, 1, 2} {
			for _, size := range []int{math.MinInt, 5, 25, math.MaxInt, 6, 24} {
				for _, at := range [][]int{nil, {0, 0}, {-65}, {65}, {0, 65}, {0}} {
					want := api.OK
					switch {
					case len(f.Kerns) > 0:
						want = api.ErrArg
					case g < 0 || g > 2:
						want = api.ErrGlyph
					case size < 6 || size > 24:
						want = api.ErrSize
					case !slices.Equal(at, []int{0}):
						want = api.ErrRegion
					}
					if want != api.OK {
						checkError(t, f, g, at, size, want)
					} else if checkBoth(t, f, g, at, size) != api.OK {
						t.Errorf("the glyph %d has an error at the size %d", g, size)
					}
				}
			}
		}
	}
}

// P11.1, P11.4, R2: the errors of Outline come before those that only Draw has.
func TestErrorsBeforeDrawing(t *testing.T) {
	huge := extended(
		api.Glyph{Outline: rectangle(-500, 0, 500, 9)},
		api.Glyph{Outline: rectangle(-500, 0, 500, 9), Hint: hint("push 1000000000; setx 0")},
	)
	checkDraw(t, huge, 3, []int{0}, 24, api.Picture{}, api.ErrSize)
	checkDraw(t, huge, 4, []int{0}, 24, api.Picture{}, api.ErrRange)
	for _, g := range []int{3, 4} {
		checkError(t, huge, g, []int{0}, 25, api.ErrSize)
		checkError(t, huge, g, []int{65}, 24, api.ErrRegion)
		checkError(t, huge, g, nil, 5, api.ErrSize)
		checkError(t, with(huge, func(f *api.Font) { f.Version = 10000 }), g, nil, 5, api.ErrArg)
	}
	checkError(t, huge, 5, []int{0}, 24, api.ErrGlyph)
}
