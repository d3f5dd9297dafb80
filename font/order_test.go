package font_test

import (
	"slices"
	"testing"

	"indelible/api"
)

// flaw is something wrong, with its error.
type flaw struct {
	errno  api.Errno
	change func(f *api.Font)
}

// flaws are such ones of whole, in the order in which Check goes through a font. None undoes or hides another one.
var flaws = slices.Concat([]flaw{
	{api.ErrName, func(f *api.Font) { f.Name = "sans-" }},
	{api.ErrVersion, func(f *api.Font) { f.Version = -1 }},
	{api.ErrRange, func(f *api.Font) { f.Axes[1].High = 1001 }},
	{api.ErrMany, func(f *api.Font) { f.Glyphs = append(f.Glyphs, glyphs(88)...) }},
}, simpleFlaws(1, "a-", api.ErrName), simpleFlaws(2, "blank", api.ErrTwice), []flaw{
	{api.ErrTwice, func(f *api.Font) { f.Glyphs[7].Name = "c1" }},
	{api.ErrRange, func(f *api.Font) { f.Glyphs[7].Advance = -1 }},
	{api.ErrGlyph, func(f *api.Font) { f.Glyphs[7].Outline = make(contours, 9) }},
	{api.ErrMany, func(f *api.Font) { f.Glyphs[7].Parts = append(f.Glyphs[7].Parts, make([]api.Part, 2)...) }},
	{api.ErrPart, func(f *api.Font) { f.Glyphs[7].Parts[1].Y = -513 }},
	{api.ErrDepth, func(f *api.Font) { f.Glyphs[7].Parts[2].Glyph = 5 }},
	{api.ErrMany, func(f *api.Font) { f.Glyphs[7].Alts = append(f.Glyphs[7].Alts, 0, 1, 2) }},
	{api.ErrGlyph, func(f *api.Font) { f.Glyphs[7].Alts[1] = 7 }},
	{api.ErrName, func(f *api.Font) { f.Glyphs[8].Name = "" }},
	{api.ErrContour, func(f *api.Font) { f.Glyphs[8].Outline = append(f.Glyphs[8].Outline, nil) }},
	{api.ErrMany, func(f *api.Font) { f.Chars = append(f.Chars, make([]api.Char, 61)...) }},
	{api.ErrChar, func(f *api.Font) { f.Chars[1].Code = 'A' }},
	{api.ErrMany, func(f *api.Font) { f.Lookups = append(f.Lookups, make([]api.Lookup, 2)...) }},
	{api.ErrMany, func(f *api.Font) { f.Lookups[2].Subs = append(f.Lookups[2].Subs, make([]api.Sub, 24)...) }},
	{api.ErrLookup, func(f *api.Font) { f.Lookups[0].Subs[1].After = make([]int, 3) }},
	{api.ErrMany, func(f *api.Font) { f.Kerns = append(f.Kerns, make([]api.Kern, 62)...) }},
	{api.ErrKern, func(f *api.Font) { f.Kerns[1].Right = -1 }},
})

// simpleFlaws are flaws of a glyph with outline, deltas and hint, one of them by the name.
func simpleFlaws(i int, name string, errno api.Errno) []flaw {
	return []flaw{
		{errno, func(f *api.Font) { f.Glyphs[i].Name = name }},
		{api.ErrRange, func(f *api.Font) { f.Glyphs[i].Advance = 513 }},
		{api.ErrMany, func(f *api.Font) {
			f.Glyphs[i].Outline[0] = append(f.Glyphs[i].Outline[0], make([]api.Point, 64)...)
		}},
		{api.ErrContour, func(f *api.Font) { f.Glyphs[i].Outline[0][0].On = false }},
		{api.ErrPoint, func(f *api.Font) { f.Glyphs[i].Outline[1][3].X = -513 }},
		{api.ErrMany, func(f *api.Font) { f.Glyphs[i].Deltas = append(f.Glyphs[i].Deltas, make([]api.Delta, 8)...) }},
		{api.ErrRegion, func(f *api.Font) { f.Glyphs[i].Deltas[0].Region[1].Peak = 65 }},
		{api.ErrPoint, func(f *api.Font) { f.Glyphs[i].Deltas[0].Moves[6].Y = 513 }},
		{api.ErrTarget, func(f *api.Font) {
			f.Glyphs[i].Hint = []api.Op{{Code: api.OpSize}, {Code: api.OpSetX, N: 100}}
		}},
		{api.ErrMany, func(f *api.Font) { f.Glyphs[i].Alts = append(f.Glyphs[i].Alts, 3, 4, 5, 6) }},
		{api.ErrGlyph, func(f *api.Font) { f.Glyphs[i].Alts[0] = -1 }},
	}
}

// P10.1: each error alone, two of them, and all of them from one on: the first one is returned.
func TestOrderOfErrors(t *testing.T) {
	for i, a := range flaws {
		f := with(whole(), a.change)
		checkError(t, f, a.errno)
		for _, b := range flaws[i+1:] {
			checkError(t, with(f, b.change), a.errno)
			checkError(t, with(with(whole(), b.change), a.change), a.errno)
		}
		all := copied(f)
		for _, b := range flaws[i+1:] {
			b.change(&all)
		}
		checkError(t, all, a.errno)
	}
}

// P10.1: the errors of two glyphs, in their order, whatever they are.
func TestOrderOfGlyphs(t *testing.T) {
	n := len(simpleFlaws(1, "", api.ErrName))
	for a := range n {
		for b := range n {
			first, second := simpleFlaws(1, "a-", api.ErrName)[a], simpleFlaws(2, "A", api.ErrName)[b]
			checkError(t, with(with(whole(), second.change), first.change), first.errno)
		}
	}
}
