package font_test

import (
	"slices"
	"testing"

	"indelible/api"
)

// simple are the indices of the glyphs of whole that have outlines, composite those of the others that have parts.
var simple, composite = []int{1, 2, 8}, []int{3, 4, 5, 7}

// checkGlyphs checks what Check says of a font in which each of some glyphs in turn was changed.
func checkGlyphs(t *testing.T, of []int, want api.Errno, change func(g *api.Glyph, i int)) {
	t.Helper()
	for _, i := range of {
		checkError(t, with(whole(), func(f *api.Font) { change(&f.Glyphs[i], i) }), want)
	}
}

// everyone is the indices of all glyphs of whole.
var everyone = []int{0, 1, 2, 3, 4, 5, 6, 7, 8}

// P10.1: names of glyphs.
func TestNamesOfGlyphs(t *testing.T) {
	for _, i := range []int{0, 3, 8} {
		checkNames(t, digits+letters, func(f *api.Font, s string) { f.Glyphs[i].Name = s })
	}
	// Two of them are the same.
	for i := range everyone {
		for k := range i {
			checkError(t, with(whole(), func(f *api.Font) { f.Glyphs[i].Name = f.Glyphs[k].Name }), api.ErrTwice)
			checkError(t, with(whole(), func(f *api.Font) { f.Glyphs[k].Name = f.Glyphs[i].Name }), api.ErrTwice)
		}
	}
	for i := range 95 {
		checkError(t, with(api.Font{Name: "g", Glyphs: glyphs(96)}, func(f *api.Font) { f.Glyphs[95].Name = f.Glyphs[i].Name }), api.ErrTwice)
	}
	// Neither parts of names count, nor the name of the font.
	checkGlyphs(t, everyone, api.OK, func(g *api.Glyph, _ int) { g.Name = "sans" })
	checkGlyphs(t, []int{2, 8}, api.OK, func(g *api.Glyph, _ int) { g.Name = "a" })
	checkGlyphs(t, everyone, api.OK, func(g *api.Glyph, _ int) { g.Name = "aa" })
}

// P10.1: advances.
func TestAdvances(t *testing.T) {
	for _, n := range append([]int{-2, -1, 0, 1, 64, 511, 512, 513, 514}, extremes...) {
		want := api.OK
		if n < 0 || n > 512 {
			want = api.ErrRange
		}
		checkGlyphs(t, everyone, want, func(g *api.Glyph, _ int) { g.Advance = n })
	}
}

// P10.1: glyphs that have parts and something else.
func TestCompositeGlyphsWithMore(t *testing.T) {
	for _, x := range []struct {
		want   api.Errno
		change func(g *api.Glyph, i int)
	}{
		{api.ErrGlyph, func(g *api.Glyph, _ int) { g.Outline = whole().Glyphs[1].Outline }},
		{api.ErrGlyph, func(g *api.Glyph, _ int) { g.Outline = make(contours, 1) }},
		{api.ErrGlyph, func(g *api.Glyph, _ int) { g.Outline = make(contours, 9) }},
		{api.ErrGlyph, func(g *api.Glyph, _ int) { g.Deltas = make([]api.Delta, 1) }},
		{api.ErrGlyph, func(g *api.Glyph, _ int) {
			g.Deltas = []api.Delta{{Region: []api.Tent{{}, {}}}}
		}},
		{api.ErrGlyph, func(g *api.Glyph, _ int) { g.Deltas = make([]api.Delta, 9) }},
		{api.ErrGlyph, func(g *api.Glyph, _ int) { g.Hint = make([]api.Op, 1) }},
		{api.ErrGlyph, func(g *api.Glyph, _ int) {
			g.Hint = []api.Op{{Code: api.OpLoop, N: 1, M: 2}, {Code: api.OpPush, N: 1}, {Code: api.OpIf, N: 1}}
		}},
		{api.ErrGlyph, func(g *api.Glyph, _ int) { g.Hint = make([]api.Op, 65) }},
		{api.OK, func(g *api.Glyph, _ int) { g.Outline, g.Deltas, g.Hint = contours{}, []api.Delta{}, []api.Op{} }},
	} {
		checkGlyphs(t, composite, x.want, x.change)
	}
	checkGlyphs(t, simple, api.ErrGlyph, func(g *api.Glyph, _ int) { g.Parts = make([]api.Part, 1) })
	checkGlyphs(t, simple, api.OK, func(g *api.Glyph, _ int) { g.Parts = []api.Part{} })
}

// P10.1: parts.
func TestParts(t *testing.T) {
	for n := range 9 {
		want := api.OK
		if n > 4 {
			want = api.ErrMany
		}
		checkGlyphs(t, composite, want, func(g *api.Glyph, _ int) { g.Parts = make([]api.Part, n) })
	}
	checkGlyphs(t, []int{0}, api.ErrPart, func(g *api.Glyph, _ int) { g.Parts = make([]api.Part, 1) })
	checkGlyphs(t, []int{0}, api.ErrPart, func(g *api.Glyph, _ int) { g.Parts = []api.Part{{Glyph: 1}} })
	checkGlyphs(t, []int{6}, api.OK, func(g *api.Glyph, _ int) { g.Parts = make([]api.Part, 1) })
	for _, n := range append([]int{-514, -513, -512, -511, 0, 511, 512, 513, 514}, extremes...) {
		want := api.OK
		if n < -512 || n > 512 {
			want = api.ErrPart
		}
		for k := range 4 {
			checkGlyphs(t, composite, want, func(g *api.Glyph, _ int) {
				g.Parts = make([]api.Part, 4)
				g.Parts[k].X = n
			})
			checkGlyphs(t, composite, want, func(g *api.Glyph, _ int) {
				g.Parts = make([]api.Part, k+1)
				g.Parts[k].Y = n
			})
		}
	}
}

// P10.1: glyphs of parts.
func TestGlyphsOfParts(t *testing.T) {
	for _, i := range composite {
		for n := range 12 {
			want := api.ErrPart
			if n < i {
				want = api.OK
			}
			if n == 5 && i > 5 {
				want = api.ErrDepth
			}
			for k := range 4 {
				checkGlyphs(t, []int{i}, want, func(g *api.Glyph, i int) {
					g.Parts = make([]api.Part, 4)
					g.Parts[k].Glyph = n
				})
			}
		}
		for _, n := range append([]int{-1, -2, 96}, extremes...) {
			checkGlyphs(t, []int{i}, api.ErrPart, func(g *api.Glyph, _ int) { g.Parts[1].Glyph = n })
		}
	}
}

// chain returns a font of a glyph, and composite ones, each with the one before it as the part number k of 4; the other ones are the first glyph.
func chain(n, k int) api.Font {
	f := api.Font{Name: "a", Glyphs: glyphs(n)}
	for i := 1; i < n; i++ {
		f.Glyphs[i].Parts = make([]api.Part, 4)
		f.Glyphs[i].Parts[k].Glyph = i - 1
	}
	return f
}

// P10.1: depths.
func TestDepths(t *testing.T) {
	for k := range 4 {
		for n := 1; n <= 4; n++ {
			checkOK(t, chain(n, k))
		}
		checkError(t, chain(5, k), api.ErrDepth)
		checkError(t, chain(96, k), api.ErrDepth)
	}
	// The deepest part counts, and each part alone.
	f := api.Font{Name: "a", Glyphs: glyphs(6)}
	f.Glyphs[1].Parts = []api.Part{{}}
	f.Glyphs[2].Parts = []api.Part{{Glyph: 1}, {}}
	f.Glyphs[3].Parts = []api.Part{{}, {Glyph: 2}, {Glyph: 1}, {}}
	f.Glyphs[5].Parts = []api.Part{{Glyph: 2}, {Glyph: 2}, {Glyph: 1}, {Glyph: 4}}
	checkOK(t, f)
	for k := range 4 {
		checkError(t, with(f, func(f *api.Font) { f.Glyphs[5].Parts[k].Glyph = 3 }), api.ErrDepth)
	}
	// Alternates and characters do not count.
	f.Glyphs[3].Alts = []int{5}
	f.Glyphs[5].Alts = []int{3}
	checkOK(t, f)
	// All glyphs may be deep.
	for i := 4; i < 6; i++ {
		f.Glyphs[i].Parts = slices.Repeat([]api.Part{{Glyph: 2}}, 4)
	}
	checkOK(t, f)
}

// P10.1: the errors of outline.Check.
func TestOutlines(t *testing.T) {
	check := func(want api.Errno, o contours) {
		t.Helper()
		checkGlyphs(t, []int{0, 1, 6, 8}, want, func(g *api.Glyph, _ int) { g.Outline, g.Deltas, g.Hint = o, nil, nil })
	}
	triple := []api.Point{on(-512, 512), off(512, -512), off(0, 0)}
	check(api.OK, nil)
	for n := range 12 {
		want := api.OK
		if n > 8 {
			want = api.ErrMany
		}
		check(want, slices.Repeat(contours{triple}, n))
		check(want, append(slices.Repeat(contours{triple}, n/2), slices.Repeat(contours{triple}, n-n/2)...))
	}
	for n := 60; n < 70; n++ {
		want := api.OK
		if n > 64 {
			want = api.ErrMany
		}
		check(want, contours{slices.Repeat([]api.Point{on(1, 2)}, n)})
		check(want, contours{triple, slices.Repeat([]api.Point{on(1, 2)}, n-6), triple})
	}
	check(api.ErrMany, make(contours, 9))
	check(api.ErrContour, make(contours, 8))
	check(api.ErrContour, contours{triple, triple[:2]})
	check(api.ErrContour, contours{triple, triple[1:]})
	check(api.ErrContour, contours{triple, append(triple[1:2:2], triple...)})
	for _, n := range append([]int{-513, 513}, extremes...) {
		check(api.ErrPoint, contours{triple, {on(0, 0), off(0, 0), off(n, 0)}})
		check(api.ErrPoint, contours{triple, {on(0, n), off(0, 0), off(0, 0)}, triple[:2]})
	}
}

// P10.1: deltas, in the first and in later places.
func TestDeltas(t *testing.T) {
	good := wide(3)
	check := func(want api.Errno, l ...api.Delta) {
		t.Helper()
		checkGlyphs(t, []int{1, 2}, want, func(g *api.Glyph, _ int) { g.Deltas = l })
	}
	for n := range 12 {
		want := api.OK
		if n > 8 {
			want = api.ErrMany
		}
		check(want, slices.Repeat([]api.Delta{good}, n)...)
	}
	check(api.ErrMany, make([]api.Delta, 9)...)
	check(api.ErrRegion, make([]api.Delta, 8)...)
	everywhere := func(want api.Errno, change func(d *api.Delta)) {
		t.Helper()
		for k := range 8 {
			l := copied(api.Font{Glyphs: []api.Glyph{{Deltas: slices.Repeat([]api.Delta{good}, 8)}}}).Glyphs[0].Deltas
			change(&l[k])
			check(want, l[:k+1]...)
			check(want, l...)
		}
	}
	everywhere(api.ErrRegion, func(d *api.Delta) { d.Region = nil })
	everywhere(api.ErrRegion, func(d *api.Delta) { d.Region = d.Region[:1] })
	everywhere(api.ErrRegion, func(d *api.Delta) { d.Region = append(d.Region, api.Tent{}) })
	everywhere(api.ErrRegion, func(d *api.Delta) { d.Region[0] = api.Tent{Low: -1, Peak: 1, High: 2} })
	everywhere(api.ErrRegion, func(d *api.Delta) { d.Region[1].High = 65 })
	everywhere(api.ErrRegion, func(d *api.Delta) { d.Region[1].Low = 17 })
	everywhere(api.ErrRegion, func(d *api.Delta) { d.Moves = nil })
	everywhere(api.ErrRegion, func(d *api.Delta) { d.Moves = d.Moves[:6] })
	everywhere(api.ErrRegion, func(d *api.Delta) { d.Moves = append(d.Moves, api.Move{}) })
	everywhere(api.OK, func(d *api.Delta) { d.Region = make([]api.Tent, 2) })
	for _, n := range append([]int{-513, -512, 512, 513}, extremes...) {
		want := api.OK
		if n < -512 || n > 512 {
			want = api.ErrPoint
		}
		for _, k := range []int{0, 3, 6} {
			everywhere(want, func(d *api.Delta) { d.Moves[k].X = n })
			everywhere(want, func(d *api.Delta) { d.Moves[k].Y = n })
		}
	}
}

// P10.1: the errors of deltas go from delta to delta.
func TestOrderOfDeltas(t *testing.T) {
	region, far, both := wide(1), wide(513), wide(513)
	region.Region = nil
	both.Moves = both.Moves[:6]
	for _, x := range []struct {
		l    []api.Delta
		want api.Errno
	}{
		{[]api.Delta{region, far}, api.ErrRegion},
		{[]api.Delta{far, region}, api.ErrPoint},
		{[]api.Delta{wide(1), far, region}, api.ErrPoint},
		{[]api.Delta{wide(1), region, far}, api.ErrRegion},
		{[]api.Delta{both}, api.ErrRegion},
		{[]api.Delta{both, far}, api.ErrRegion},
		{[]api.Delta{far, both}, api.ErrPoint},
		{slices.Repeat([]api.Delta{far}, 9), api.ErrMany},
	} {
		checkGlyphs(t, []int{1, 2}, x.want, func(g *api.Glyph, _ int) { g.Deltas = x.l })
	}
}

// P10.1: deltas for as many axes as there are, and for as many points.
func TestDeltasOfOtherFonts(t *testing.T) {
	all := largest().Axes
	for axes := range 4 {
		for points := range 8 {
			for n := range 5 {
				for moves := range 9 {
					f := api.Font{Name: "a", Axes: all[:axes], Glyphs: glyphs(1)}
					g := &f.Glyphs[0]
					if points > 2 {
						g.Outline = contours{slices.Repeat([]api.Point{on(1, 1)}, points)}
					}
					g.Deltas = []api.Delta{{Region: make([]api.Tent, n), Moves: make([]api.Move, moves)}}
					want := api.ErrRegion
					if n == axes && (moves == points && points > 2 || moves == 0 && points <= 2) {
						want = api.OK
					}
					checkError(t, f, want)
				}
			}
		}
	}
}

// P10.1: the errors of verify.Check.
func TestHints(t *testing.T) {
	// The glyph 1 has 7 points, the glyph 8 has 3, and the glyph 0 none.
	set := func(n int) []api.Op { return []api.Op{{Code: api.OpSize}, {Code: api.OpSetX, N: n}} }
	points := map[int]int{0: 0, 1: 7, 2: 7, 8: 3}
	for _, i := range []int{0, 1, 2, 8} {
		check := func(want api.Errno, hint ...api.Op) {
			t.Helper()
			checkGlyphs(t, []int{i}, want, func(g *api.Glyph, _ int) { g.Hint = hint })
		}
		for n := -1; n < 9; n++ {
			want := api.ErrTarget
			if n >= 0 && n < points[i] {
				want = api.OK
			}
			check(want, set(n)...)
		}
		check(api.OK)
		check(api.ErrMany, slices.Repeat([]api.Op{{Code: api.OpSize}}, 65)...)
		check(api.ErrForm, api.Op{})
		check(api.ErrForm, api.Op{Code: api.OpLoop, N: 1, M: 1})
		check(api.ErrDepth, api.Op{Code: api.OpSize})
		check(api.ErrDepth, api.Op{Code: api.OpAdd})
		if points[i] > 0 {
			check(api.OK, slices.Repeat(set(0), 32)...)
			check(api.ErrCost, slices.Concat([]api.Op{{Code: api.OpLoop, N: 16, M: 63}, {Code: api.OpLoop, N: 16, M: 62}}, slices.Repeat(set(0), 31))...)
		}
	}
	checkError(t, with(largest(), func(f *api.Font) { f.Glyphs[50].Hint[0].N = 64 }), api.ErrTarget)
}

// P10.1: alternates, of simple glyphs and of composite ones.
func TestAlternates(t *testing.T) {
	for i := range everyone {
		check := func(want api.Errno, alts ...int) {
			t.Helper()
			checkGlyphs(t, []int{i}, want, func(g *api.Glyph, _ int) { g.Alts = alts })
		}
		var others []int
		for n := range everyone {
			want := api.OK
			if n == i {
				want = api.ErrGlyph
			} else {
				others = append(others, n)
			}
			check(want, n)
		}
		for n := range others {
			want := api.OK
			if n > 4 {
				want = api.ErrMany
			}
			check(want, others[:n]...)
			slices.Reverse(others)
			check(want, others[:n]...)
		}
		for k := range 4 {
			for _, wrong := range append([]int{i, others[5], -1, 9, 10, 96}, extremes...) {
				want := api.ErrGlyph
				if wrong == others[5] {
					want = api.OK
				}
				l := slices.Clone(others[:4])
				l[k] = wrong
				check(want, l...)
			}
			for n := range k {
				l := slices.Clone(others[:4])
				l[k] = l[n]
				check(api.ErrGlyph, l...)
			}
		}
		check(api.ErrGlyph, others[0], others[0])
		check(api.ErrMany, i, i, i, i, i)
		check(api.ErrMany, make([]int, 1000)...)
	}
}
