package font

import (
	"slices"

	"indelible/api"
	"indelible/axis"
	"indelible/outline"
	"indelible/verify"
)

// member is a glyph of a font, with its index. The glyphs before it are valid.
type member struct {
	font  api.Font
	index int
	glyph api.Glyph
}

func checkGlyph(m member) api.Errno {
	shape := checkSimple
	if len(m.glyph.Parts) > 0 {
		shape = checkComposite
	}
	return firstError(m, []func(m member) api.Errno{checkMetrics, shape, checkAlts})
}

func checkMetrics(m member) api.Errno {
	switch {
	case !isName(m.glyph.Name, isLetterOrDigit):
		return api.ErrName
	case Find(m.font, m.glyph.Name) < m.index:
		return api.ErrTwice
	case !isWithin(m.glyph.Advance, 0, api.MaxCoord):
		return api.ErrRange
	}
	return api.OK
}

func checkComposite(m member) api.Errno {
	g := m.glyph
	isWrong := func(p api.Part) bool {
		return !isWithin(p.Glyph, 0, m.index-1) || !isCoord(p.X) || !isCoord(p.Y)
	}
	switch {
	case len(g.Outline) > 0 || len(g.Deltas) > 0 || len(g.Hint) > 0:
		return api.ErrGlyph
	case len(g.Parts) > api.MaxParts:
		return api.ErrMany
	case slices.ContainsFunc(g.Parts, isWrong):
		return api.ErrPart
	case depth(m.font, m.index) > api.MaxDepth:
		return api.ErrDepth
	}
	return api.OK
}

// depth returns the depth of a glyph all of whose parts are earlier glyphs, as are those of the glyphs before it.
func depth(f api.Font, g int) int {
	d := 0
	for _, p := range f.Glyphs[g].Parts {
		d = max(d, depth(f, p.Glyph)+1)
	}
	return d
}

func checkSimple(m member) api.Errno {
	return firstError(m, []func(m member) api.Errno{checkOutline, checkDeltas, checkHint})
}

func checkOutline(m member) api.Errno { return outline.Check(m.glyph.Outline) }

func checkDeltas(m member) api.Errno {
	if len(m.glyph.Deltas) > api.MaxDeltas {
		return api.ErrMany
	}
	isFar := func(v api.Move) bool { return !isCoord(v.X) || !isCoord(v.Y) }
	points := outline.Count(m.glyph.Outline)
	for _, d := range m.glyph.Deltas {
		if !axis.Fits(d.Region, len(m.font.Axes)) || len(d.Moves) != points {
			return api.ErrRegion
		}
		if slices.ContainsFunc(d.Moves, isFar) {
			return api.ErrPoint
		}
	}
	return api.OK
}

func checkHint(m member) api.Errno {
	_, errno := verify.Check(m.glyph.Hint, outline.Count(m.glyph.Outline))
	return errno
}

func checkAlts(m member) api.Errno {
	alts := m.glyph.Alts
	if len(alts) > api.MaxAlts {
		return api.ErrMany
	}
	for i, a := range alts {
		if !isIndex(m.font, a) || a == m.index || slices.Contains(alts[:i], a) {
			return api.ErrGlyph
		}
	}
	return api.OK
}

func isCoord(n int) bool { return isWithin(n, -api.MaxCoord, api.MaxCoord) }
