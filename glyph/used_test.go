package glyph_test

import (
	"slices"
	"testing"

	"indelible/api"
)

// tree returns a font whose glyphs have the given parts; it need not be valid.
func tree(l ...[]int) api.Font {
	f := api.Font{Name: "a", Glyphs: make([]api.Glyph, len(l))}
	for g, of := range l {
		for _, p := range of {
			f.Glyphs[g].Parts = append(f.Glyphs[g].Parts, api.Part{Glyph: p})
		}
	}
	return f
}

// used returns what Used promises, by rounds until nothing new comes.
func used(f api.Font, g int) []int {
	if g < 0 || g > len(f.Glyphs)-1 {
		return nil
	}
	l := []int{g}
	for k := 0; k < len(l); k++ {
		for _, p := range f.Glyphs[l[k]].Parts {
			if p.Glyph >= 0 && p.Glyph < l[k] && !slices.Contains(l, p.Glyph) {
				l = append(l, p.Glyph)
			}
		}
	}
	slices.Sort(l)
	return l
}

// P11.5: simple glyphs, those whose parts share a glyph, and parts of parts.
func TestUsed(t *testing.T) {
	f := tree(nil, nil, nil, []int{1}, []int{2, 0}, []int{1, 3}, []int{4, 3}, []int{0, 0, 0, 0}, []int{6, 5, 7, 6}, []int{8, 1})
	for g, want := range [][]int{
		{0}, {1}, {2}, {1, 3}, {0, 2, 4}, {1, 3, 5}, {0, 1, 2, 3, 4, 6}, {0, 7}, {0, 1, 2, 3, 4, 5, 6, 7, 8}, {0, 1, 2, 3, 4, 5, 6, 7, 8, 9},
	} {
		checkUsed(t, f, g, want...)
		if model := used(f, g); !slices.Equal(model, want) {
			t.Errorf("used by %d should be %v, but is %v", g, want, model)
		}
	}
}

// P11.5: places, outlines and all other tables play no part.
func TestUsedOfWholeFonts(t *testing.T) {
	f := extended(
		api.Glyph{Parts: []api.Part{{Glyph: 2, X: 512}, {Glyph: 0, Y: -512}}},
		api.Glyph{Parts: []api.Part{{Glyph: 3, X: 1}, {Glyph: 1, Y: 2}}, Alts: []int{0, 5}},
		api.Glyph{Outline: rectangle(1, 2, 3, 4), Alts: []int{4}},
	)
	for g, want := range [][]int{{0}, {1}, {1, 2}, {0, 1, 2, 3}, {0, 1, 2, 3, 4}, {5}} {
		checkUsed(t, f, g, want...)
		checkUsed(t, with(f, func(f *api.Font) { f.Name, f.Axes, f.Glyphs[0].Name = "", make([]api.Axis, 9), "%" }), g, want...)
	}
	for _, g := range append([]int{-2, -1, 6, 7}, extremes...) {
		checkUsed(t, f, g)
	}
}

// P11.5: indices in fonts without glyphs.
func TestUsedWithoutGlyphs(t *testing.T) {
	for _, f := range []api.Font{{}, {Glyphs: []api.Glyph{}}, {Name: "sans", Chars: []api.Char{{Code: 97}}}} {
		for _, g := range append([]int{-1, 0, 1}, extremes...) {
			checkUsed(t, f, g)
		}
	}
}

// P11.5: parts that name the glyph itself, a later one, and none.
func TestUsedOfPartsThatAreNone(t *testing.T) {
	for _, p := range append([]int{3, 4, 5, 6, -1}, extremes...) {
		checkUsed(t, tree(nil, nil, nil, []int{p}, nil), 3, 3)
		checkUsed(t, tree(nil, nil, nil, []int{1, p, 0}, nil), 3, 0, 1, 3)
		checkUsed(t, tree(nil, nil, nil, []int{p, 1, p}, []int{3}), 4, 1, 3, 4)
	}
	// A part of a part has to be less than this part, and not than the glyph alone.
	checkUsed(t, tree(nil, []int{2}, nil, []int{1}), 3, 1, 3)
	checkUsed(t, tree(nil, []int{2, 0}, []int{1}, []int{1}), 3, 0, 1, 3)
	checkUsed(t, tree(nil, []int{2, 0}, []int{1}, []int{1, 2}), 3, 0, 1, 2, 3)
	checkUsed(t, tree([]int{0}, []int{1}, []int{2, 2}), 2, 2)
	checkUsed(t, tree([]int{1}, []int{0}), 1, 0, 1)
	checkUsed(t, tree([]int{1}, []int{0}), 0, 0)
	checkUsed(t, tree([]int{-1}), 0, 0)
}

// P11.5: composite glyphs that have an outline, too, as only fonts that are not valid do.
func TestUsedOfPartsWithOutline(t *testing.T) {
	f := with(example(), func(f *api.Font) { f.Glyphs[2].Outline = rectangle(0, 0, 1, 1) })
	checkUsed(t, f, 2, 1, 2)
	f.Glyphs[1].Parts = make([]api.Part, 9)
	checkUsed(t, f, 2, 0, 1, 2)
}

// P11.5, P1: more glyphs, parts and depth than a valid font has. The parts of a glyph are looked at once, however often it is used.
func TestUsedOfLargeFonts(t *testing.T) {
	const n = 1 << 16
	f := api.Font{Glyphs: make([]api.Glyph, n)}
	all := []int{0}
	for g := 1; g < n; g++ {
		f.Glyphs[g].Parts = []api.Part{{Glyph: g - 1}, {Glyph: g}, {Glyph: g - 1}, {Glyph: max(g-2, 0)}, {Glyph: g + 1}}
		all = append(all, g)
	}
	checkUsed(t, f, n-1, all...)
	checkUsed(t, f, n/2, all[:n/2+1]...)
	checkUsed(t, f, n)
	wide := api.Font{Glyphs: make([]api.Glyph, 3)}
	wide.Glyphs[2].Parts = slices.Repeat([]api.Part{{Glyph: 1}, {Glyph: 2}, {Glyph: -1}}, n)
	checkUsed(t, wide, 2, 1, 2)
}

// P11.5: all fonts of three glyphs with up to two parts each, from -1 to 3.
func TestUsedOfAllSmallFonts(t *testing.T) {
	l := [][]int{nil}
	for p := -1; p <= 3; p++ {
		l = append(l, []int{p})
		for q := -1; q <= 3; q++ {
			l = append(l, []int{p, q})
		}
	}
	for _, a := range l {
		for _, b := range l {
			for _, c := range l {
				f := tree(a, b, c)
				for g := range 3 {
					checkUsed(t, f, g, used(f, g)...)
				}
			}
		}
	}
}
