package font

import (
	"cmp"
	"slices"

	"indelible/api"
	"indelible/axis"
)

const (
	// maxLetters is the number of bytes of the longest name of a font, or of a glyph.
	maxLetters = 12
	maxVersion = 9999
	// maxKern is the most font units that a kerning pair adds; the least is -maxKern.
	maxKern = 64
)

// Check reports whether a font is valid.
func Check(f api.Font) api.Errno {
	return firstError(f, []func(f api.Font) api.Errno{checkHead, checkGlyphs, checkChars, checkLookups, checkKerns})
}

// firstError carries out checks of x up to the first error.
func firstError[T any](x T, checks []func(x T) api.Errno) api.Errno {
	for _, check := range checks {
		if errno := check(x); errno != api.OK {
			return errno
		}
	}
	return api.OK
}

func checkHead(f api.Font) api.Errno {
	switch {
	case !isName(f.Name, isLetter):
		return api.ErrName
	case !isWithin(f.Version, 0, maxVersion):
		return api.ErrVersion
	}
	return axis.Check(f.Axes)
}

func checkGlyphs(f api.Font) api.Errno {
	if !isWithin(len(f.Glyphs), 1, api.MaxGlyphs) {
		return api.ErrMany
	}
	for i, g := range f.Glyphs {
		if errno := checkGlyph(member{font: f, index: i, glyph: g}); errno != api.OK {
			return errno
		}
	}
	return api.OK
}

func checkChars(f api.Font) api.Errno {
	if len(f.Chars) > api.MaxChars {
		return api.ErrMany
	}
	for i, c := range f.Chars {
		inOrder := i == 0 || f.Chars[i-1].Code < c.Code
		if !inOrder || !isCharacter(c.Code) || !isIndex(f, c.Glyph) {
			return api.ErrChar
		}
	}
	return api.OK
}

func checkLookups(f api.Font) api.Errno {
	hasMany := func(l api.Lookup) bool { return len(l.Subs) > api.MaxSubs }
	if len(f.Lookups) > api.MaxLookups || slices.ContainsFunc(f.Lookups, hasMany) {
		return api.ErrMany
	}
	for _, l := range f.Lookups {
		for _, s := range l.Subs {
			if !isSub(f, s) {
				return api.ErrLookup
			}
		}
	}
	return api.OK
}

// isSub reports whether a substitution is one of glyphs of a font.
func isSub(f api.Font, s api.Sub) bool {
	fits := isWithin(len(s.From), 1, api.MaxFrom) && len(s.Before) <= api.MaxContext && len(s.After) <= api.MaxContext
	return fits && areIndices(f, s.Before) && areIndices(f, s.From) && areIndices(f, s.After) && isIndex(f, s.To)
}

func checkKerns(f api.Font) api.Errno {
	if len(f.Kerns) > api.MaxKerns {
		return api.ErrMany
	}
	for i, k := range f.Kerns {
		inOrder := i == 0 || comparePairs(f.Kerns[i-1], k) < 0
		if !inOrder || !isIndex(f, k.Left) || !isIndex(f, k.Right) || !isWithin(k.By, -maxKern, maxKern) {
			return api.ErrKern
		}
	}
	return api.OK
}

func comparePairs(a, b api.Kern) int {
	return cmp.Or(cmp.Compare(a.Left, b.Left), cmp.Compare(a.Right, b.Right))
}

// isIndex reports whether a number is the index of a glyph of a font.
func isIndex(f api.Font, n int) bool { return isWithin(n, 0, len(f.Glyphs)-1) }

func areIndices(f api.Font, l []int) bool {
	return !slices.ContainsFunc(l, func(n int) bool { return !isIndex(f, n) })
}

func isWithin(n, low, high int) bool { return low <= n && n <= high }

// isName reports whether a string has a permitted length, and all of its bytes are permitted.
func isName(s string, permits func(code int) bool) bool {
	if !isWithin(len(s), 1, maxLetters) {
		return false
	}
	for i := range len(s) {
		if !permits(int(s[i])) {
			return false
		}
	}
	return true
}

func isLetter(code int) bool { return isWithin(code, 'a', 'z') }

func isLetterOrDigit(code int) bool { return isLetter(code) || isWithin(code, '0', '9') }

func isCharacter(code int) bool { return isLetterOrDigit(code) || code == '-' }
