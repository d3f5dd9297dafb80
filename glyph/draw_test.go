package glyph_test

import (
	"slices"
	"testing"

	"indelible/api"
	"indelible/glyph"
)

// checkShape checks the picture of a glyph with an outline, at the size 8: a dot has 8 font units.
func checkShape(t *testing.T, o contours, want api.Picture) {
	t.Helper()
	f := extended(api.Glyph{Outline: o})
	checkDraw(t, f, 3, []int{0}, 8, want, api.OK)
	checkBoth(t, f, 3, []int{0}, 8)
}

// P11.4: pictures on all sides of the origin, and between dots.
func TestPicturesAroundTheOrigin(t *testing.T) {
	square := rectangle(0, 0, 16, 16)
	checkShape(t, square, picture(0, 0, "...", "##.", "##."))
	checkShape(t, moved(square, 8, 24), picture(1, 3, "...", "##.", "##."))
	checkShape(t, moved(square, -16, 0), picture(-2, 0, "...", "##.", "##."))
	checkShape(t, moved(square, 0, -16), picture(0, -2, "...", "##.", "##."))
	checkShape(t, moved(square, -40, -24), picture(-5, -3, "...", "##.", "##."))
	checkShape(t, moved(square, -41, -25), picture(-6, -4, ".##", ".##", "..."))
	checkShape(t, moved(square, -43, -20), picture(-6, -3, ".#.", "###", ".#."))
	checkShape(t, moved(square, -4, 4), picture(-1, 0, ".#.", "###", ".#."))
}

// P11.4: a glyph without points, and with points, but without a dot.
func TestGlyphsWithoutDots(t *testing.T) {
	checkShape(t, nil, api.Picture{})
	checkShape(t, contours{{on(0, 0), on(20, 0), on(9, 0)}}, picture(0, 0, "..."))
	checkShape(t, contours{{on(-1, 17), on(-1, 17), on(-1, 17)}}, picture(-1, 2, "."))
	checkShape(t, rectangle(0, 0, 1, 8), picture(0, 0, ".", "."))
	checkDraw(t, parts(api.Part{X: 8, Y: 8}, api.Part{X: -80}), 3, []int{0}, 8, api.Picture{}, api.OK)
}

// P11.4: curves, contours within each other, and contours that cross.
func TestShapes(t *testing.T) {
	checkShape(t, contours{{on(0, 0), on(32, 0), off(32, 32), on(0, 32)}}, picture(0, 0, ".....", "##...", "###..", "####.", "####."))
	checkShape(t, contours{{on(0, 0), on(32, 0), on(0, 32)}}, picture(0, 0, ".....", "#....", "##...", "###..", "####."))
	outer, inner := rectangle(0, 0, 32, 32), rectangle(8, 8, 24, 24)
	checkShape(t, slices.Concat(outer, inner), picture(0, 0, above(rows(1, "....."), rows(4, "####."))...))
	slices.Reverse(inner[0])
	checkShape(t, slices.Concat(outer, inner), picture(0, 0, ".....", "####.", "#..#.", "#..#.", "####."))
	checkShape(t, contours{{on(0, 0), on(32, 0), on(0, 32), on(32, 32)}}, picture(0, 0, ".....", ".###.", "..#..", "..#..", ".###."))
}

// P11.4: all parts are drawn at once, such that one of them is a hole of another one.
func TestPartsWithinEachOther(t *testing.T) {
	hole := rectangle(0, 0, 8, 8)
	slices.Reverse(hole[0])
	f := extended(
		api.Glyph{Outline: rectangle(0, 0, 24, 24)},
		api.Glyph{Outline: hole},
		api.Glyph{Parts: []api.Part{{Glyph: 3}, {Glyph: 4, X: 8, Y: 8}}},
		api.Glyph{Parts: []api.Part{{Glyph: 4, X: 8}, {Glyph: 3, X: -8}, {Glyph: 5}}},
	)
	checkDraw(t, f, 5, []int{0}, 8, picture(0, 0, "....", "###.", "#.#.", "###."), api.OK)
	checkDraw(t, f, 6, []int{0}, 8, picture(-1, 0, ".....", "####.", "####.", "####."), api.OK)
	f.Glyphs[6].Parts = f.Glyphs[6].Parts[:2]
	checkDraw(t, f, 6, []int{0}, 8, picture(-1, 0, "....", "###.", "###.", "##.."), api.OK)
}

// P11.4: positions, sizes and hints can be seen.
func TestPicturesOfTheExample(t *testing.T) {
	f := extended(api.Glyph{Parts: []api.Part{{Glyph: 2, X: -40, Y: -16}, {Glyph: 1, X: 2, Y: 40}}})
	checkDraw(t, f, 1, []int{64}, 8, picture(1, 0, above(rows(1, "...."), rows(6, "###."))...), api.OK)
	checkDraw(t, f, 1, []int{-64}, 8, picture(1, 0, above(rows(1, "..."), rows(6, "##."))...), api.OK)
	checkDraw(t, f, 1, []int{0}, 24, picture(3, 0, above(rows(1, "......."), rows(18, "######."))...), api.OK)
	checkDraw(t, f, 2, []int{64}, 16, picture(2, 0, above(rows(1, "..............."), rows(12, "######..######."))...), api.OK)
	checkDraw(t, f, 3, []int{0}, 8, picture(-4, -2, above(
		rows(1, "........"), rows(6, ".....##."), rows(1, "........"), rows(4, "##..##.."), rows(2, "##..##.."),
	)...), api.OK)
}

// P11.4: pictures of 96 and of 97 columns and rows.
func TestLargestPictures(t *testing.T) {
	f := extended(
		api.Glyph{Outline: rectangle(0, 0, 511, 8)},
		api.Glyph{Outline: rectangle(0, 0, 512, 8)},
		api.Glyph{Outline: rectangle(0, -512, 8, -1)},
		api.Glyph{Outline: rectangle(0, -512, 8, 0)},
		api.Glyph{Outline: rectangle(-1, 0, 511, 8)},
		api.Glyph{Parts: []api.Part{{Glyph: 1, X: -512}, {Glyph: 1, X: 512}}},
		api.Glyph{Parts: []api.Part{{Glyph: 1, Y: -512}, {Glyph: 1, Y: 512}}},
	)
	for g, want := range map[int]api.Errno{3: api.OK, 4: api.ErrSize, 5: api.OK, 6: api.ErrSize, 7: api.ErrSize, 8: api.ErrSize, 9: api.ErrSize} {
		p, errno := glyph.Draw(f, g, []int{0}, 12)
		if errno != want || want == api.OK && max(p.Map.W, p.Map.H) != 96 {
			t.Errorf("the glyph %d has %d by %d dots, %v", g, p.Map.W, p.Map.H, errno)
		}
		if want != api.OK {
			checkDraw(t, f, g, []int{0}, 12, api.Picture{}, want)
		}
		checkBoth(t, f, g, []int{0}, 12)
		if errno := checkBoth(t, f, g, []int{0}, 24); errno != api.ErrSize {
			t.Errorf("the error of the glyph %d is %v at the size 24", g, errno)
		}
	}
}

// far is the greatest coordinate of an outline that is in range when it is drawn: 2^25 sixty-fourths of a dot.
const far = "push 33554432; setx 0; push 33554432; setx 1; push 33554432; setx 2"

// P11.4: hints that move points so far that they are not in range.
func TestPicturesOutOfRange(t *testing.T) {
	triangle := contours{{on(0, 0), on(9, 0), on(0, 9)}}
	f := extended(
		api.Glyph{Outline: triangle, Hint: hint(far)},
		api.Glyph{Outline: triangle, Hint: hint("push 33554433; setx 1")},
		api.Glyph{Outline: triangle, Hint: hint("push -33554433; sety 2")},
		api.Glyph{Outline: triangle, Hint: hint("push 1000000000000; setx 0")},
		api.Glyph{Outline: triangle, Hint: hint("push 33554432; setx 1")},
		api.Glyph{Parts: []api.Part{{Glyph: 3, X: -512}}},
		api.Glyph{Parts: []api.Part{{Glyph: 3, X: 64}}},
		api.Glyph{Parts: []api.Part{{Glyph: 1}, {Glyph: 4}}},
	)
	checkOutline(t, f, 6, []int{0}, 6, contours{{on(1<<30, 0), on(54, 0), on(0, 54)}}, api.OK)
	checkDraw(t, f, 3, []int{0}, 6, picture(1<<19, 0, "."), api.OK)
	checkDraw(t, f, 8, []int{0}, 6, picture(1<<19-48, 0, "."), api.OK)
	for g, want := range map[int]api.Errno{4: api.ErrRange, 5: api.ErrRange, 6: api.ErrRange, 7: api.ErrSize, 9: api.ErrRange, 10: api.ErrRange} {
		checkDraw(t, f, g, []int{0}, 6, api.Picture{}, want)
		checkBoth(t, f, g, []int{0}, 6)
	}
}
