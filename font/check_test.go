package font_test

import (
	"fmt"
	"math"
	"slices"
	"strings"
	"testing"

	"indelible/api"
)

// P10.1: the document's examples.
func TestExamplesOfCheck(t *testing.T) {
	checkOK(t, example())
	for _, x := range []struct {
		want   api.Errno
		change func(f *api.Font)
	}{
		{api.ErrVersion, func(f *api.Font) { f.Version = 10000 }},
		{api.ErrName, func(f *api.Font) { f.Name = "Sans" }},
		{api.ErrTwice, func(f *api.Font) { f.Glyphs[1].Name = "blank" }},
		{api.ErrRange, func(f *api.Font) { f.Glyphs[0].Advance = 513 }},
		{api.ErrGlyph, func(f *api.Font) { f.Glyphs[1].Parts = []api.Part{{}} }},
		{api.ErrPart, func(f *api.Font) {
			f.Glyphs = append(f.Glyphs, api.Glyph{Name: "c", Parts: []api.Part{{Glyph: 2}}})
		}},
		{api.ErrPart, func(f *api.Font) {
			f.Glyphs = append(f.Glyphs, api.Glyph{Name: "c", Parts: []api.Part{{Glyph: 1, Y: 600}}})
		}},
		{api.ErrGlyph, func(f *api.Font) { f.Glyphs[1].Alts = []int{1} }},
		{api.OK, func(f *api.Font) { f.Glyphs[0].Alts = []int{1} }},
		{api.ErrRegion, func(f *api.Font) {
			f.Glyphs[1].Deltas = []api.Delta{{Region: []api.Tent{{Peak: 64, High: 64}}, Moves: make([]api.Move, 2)}}
		}},
		{api.ErrChar, func(f *api.Font) { f.Chars = append(f.Chars, api.Char{Code: 97}) }},
		{api.ErrChar, func(f *api.Font) { f.Chars = []api.Char{{Code: 65, Glyph: 1}} }},
		{api.ErrLookup, func(f *api.Font) { f.Lookups = []api.Lookup{{Subs: []api.Sub{{From: []int{1}, To: 2}}}} }},
		{api.ErrKern, func(f *api.Font) { f.Kerns = []api.Kern{{Left: 1, Right: 1, By: 5}, {Left: 1, Right: 0, By: 5}} }},
		{api.ErrKern, func(f *api.Font) { f.Kerns = []api.Kern{{Left: 0, Right: 1, By: 65}} }},
	} {
		checkError(t, with(example(), x.change), x.want)
	}
}

// P10.1: a font that has something of everything, the zero font, and fonts of one glyph.
func TestCheckOfFewAndMany(t *testing.T) {
	checkOK(t, whole())
	checkError(t, api.Font{}, api.ErrName)
	checkError(t, api.Font{Name: "a"}, api.ErrMany)
	checkError(t, api.Font{Name: "a", Glyphs: []api.Glyph{{}}}, api.ErrName)
	checkOK(t, api.Font{Name: "a", Glyphs: []api.Glyph{{Name: "b"}}})
	checkOK(t, largest())
}

// largest is a font that has as much as is permitted.
func largest() api.Font {
	f := api.Font{Name: letters[:12], Version: 9999, Glyphs: glyphs(96)}
	for k := range 3 {
		f.Axes = append(f.Axes, api.Axis{Tag: letters[k : k+4], Low: -1000, High: 1000})
	}
	for i := range f.Glyphs {
		g := &f.Glyphs[i]
		g.Name += strings.Repeat("x", 12-len(g.Name))
		g.Advance = 512
		for k := range 8 {
			g.Outline = append(g.Outline, slices.Repeat([]api.Point{on(512-k, -512)}, 8))
			g.Deltas = append(g.Deltas, api.Delta{Region: slices.Repeat([]api.Tent{{Low: -64, Peak: k - 10}}, 3), Moves: slices.Repeat([]api.Move{{X: -512, Y: 512}}, 64)})
		}
		g.Hint = slices.Repeat([]api.Op{{Code: api.OpGetX, N: 63}, {Code: api.OpSetY, N: 0}}, 32)
		g.Alts = []int{(i + 1) % 96, (i + 2) % 96, (i + 95) % 96, (i + 94) % 96}
		if i > 92 {
			*g = api.Glyph{Name: g.Name, Parts: slices.Repeat([]api.Part{{Glyph: i - 1, X: 512, Y: -512}}, 4), Alts: g.Alts}
		}
	}
	for k, c := range []byte("-" + digits + letters) {
		f.Chars = append(f.Chars, api.Char{Code: int(c), Glyph: 95 - k})
	}
	sub := api.Sub{Before: []int{95, 0}, From: []int{0, 95, 95}, After: []int{0, 95}, To: 95}
	f.Lookups = slices.Repeat([]api.Lookup{{Subs: slices.Repeat([]api.Sub{sub}, 24)}}, 4)
	for k := range 64 {
		f.Kerns = append(f.Kerns, api.Kern{Left: 32 + k, Right: 95 - k, By: 64 - 128*(k%2)})
	}
	return copied(f)
}

// glyphs returns so many glyphs without shapes, with different names.
func glyphs(n int) []api.Glyph {
	l := make([]api.Glyph, n)
	for i := range l {
		l[i].Name = fmt.Sprint("g", i)
	}
	return l
}

// checkNames checks which names are permitted where name puts them.
func checkNames(t *testing.T, permitted string, name func(f *api.Font, s string)) {
	t.Helper()
	check := func(s string, want api.Errno) {
		t.Helper()
		checkError(t, with(whole(), func(f *api.Font) { name(f, s) }), want)
	}
	check("", api.ErrName)
	for n := range 40 {
		want := api.OK
		if n < 1 || n > 12 {
			want = api.ErrName
		}
		check(strings.Repeat("q", n), want)
		check(strings.Repeat(permitted[len(permitted)-1:], n), want)
	}
	for c := range 256 {
		want := api.ErrName
		if strings.Contains(permitted, string([]byte{byte(c)})) {
			want = api.OK
		}
		s := string([]byte{byte(c)})
		for _, name := range []string{s, s + "qq", "qq" + s, "q" + s + "q", "qqqqqqqqqqq" + s} {
			check(name, want)
		}
	}
	for _, s := range []string{"ä", "qé", "\xff", "q\x00", "q ", " q", "q\n", "ａ", strings.Repeat("q", 1<<16), strings.Repeat("é", 6)} {
		check(s, api.ErrName)
	}
}

// P10.1: names of fonts.
func TestNamesOfFonts(t *testing.T) {
	checkNames(t, letters, func(f *api.Font, s string) { f.Name = s })
}

// P10.1: versions.
func TestVersions(t *testing.T) {
	for _, n := range append([]int{-2, -1, 0, 1, 63, 9998, 9999, 10001, 65536}, extremes...) {
		want := api.OK
		if n < 0 || n > 9999 {
			want = api.ErrVersion
		}
		checkError(t, with(whole(), func(f *api.Font) { f.Version = n }), want)
	}
}

// P10.1: the errors of axis.Check.
func TestAxesOfFonts(t *testing.T) {
	a, b, c := api.Axis{Tag: "a"}, api.Axis{Tag: "bold", Low: -1000, High: 1000}, api.Axis{Tag: "c", Usual: 5, High: 5}
	for _, x := range []struct {
		l    []api.Axis
		want api.Errno
	}{
		{nil, api.OK},
		{[]api.Axis{}, api.OK},
		{[]api.Axis{a}, api.OK},
		{[]api.Axis{a, b, c}, api.OK},
		{[]api.Axis{a, b, c, {Tag: "d"}}, api.ErrMany},
		{[]api.Axis{{}}, api.ErrName},
		{[]api.Axis{a, b, {Tag: "bolds"}}, api.ErrName},
		{[]api.Axis{a, {Tag: "a", High: 5000}}, api.ErrTwice},
		{[]api.Axis{a, b, a}, api.ErrTwice},
		{[]api.Axis{{Tag: "a", High: 1001}}, api.ErrRange},
		{[]api.Axis{a, b, {Tag: "d", Low: math.MinInt}}, api.ErrRange},
		{[]api.Axis{{Tag: "a", Low: 1}}, api.ErrOrder},
		{[]api.Axis{a, {Tag: "d", High: -1}}, api.ErrOrder},
	} {
		checkError(t, with(example(), func(f *api.Font) { f.Axes = x.l }), x.want)
	}
}

// P10.1: numbers of glyphs.
func TestNumbersOfGlyphs(t *testing.T) {
	for _, n := range []int{0, 1, 2, 95, 96, 97, 98, 192, 1000, 100000} {
		want := api.OK
		if n < 1 || n > 96 {
			want = api.ErrMany
		}
		checkError(t, api.Font{Name: "a", Glyphs: glyphs(n)}, want)
	}
	checkError(t, api.Font{Name: "a", Glyphs: make([]api.Glyph, 97)}, api.ErrMany)
	checkError(t, api.Font{Name: "a", Glyphs: make([]api.Glyph, 96)}, api.ErrName)
}

// P10.1: characters.
func TestChars(t *testing.T) {
	check := func(want api.Errno, l ...api.Char) {
		t.Helper()
		checkError(t, with(whole(), func(f *api.Font) { f.Chars = l }), want)
	}
	check(api.OK)
	for c := range 600 {
		want := api.ErrChar
		if c < 256 && strings.Contains(letters+digits+"-", string([]byte{byte(c)})) {
			want = api.OK
		}
		check(want, api.Char{Code: c, Glyph: 8})
		check(api.ErrChar, api.Char{Code: -c - 1})
		if c > 'm' {
			check(want, api.Char{Code: 'a'}, api.Char{Code: 'm', Glyph: 1}, api.Char{Code: c})
		} else {
			check(api.ErrChar, api.Char{Code: 'a'}, api.Char{Code: 'm', Glyph: 1}, api.Char{Code: c})
		}
	}
	for _, n := range append([]int{-1, 9, 10, 96}, extremes...) {
		check(api.ErrChar, api.Char{Code: 'a', Glyph: n})
		check(api.ErrChar, api.Char{Code: 'a', Glyph: 1}, api.Char{Code: 'b', Glyph: n})
		check(api.ErrChar, api.Char{Code: n})
		check(api.ErrChar, api.Char{Code: 'a'}, api.Char{Code: n})
	}
	check(api.ErrChar, api.Char{Code: 'a'}, api.Char{Code: 'a'})
	check(api.ErrChar, api.Char{Code: 'b'}, api.Char{Code: 'a'})
	check(api.ErrChar, api.Char{Code: 'a'}, api.Char{Code: 'c'}, api.Char{Code: 'b'})
	check(api.OK, api.Char{Code: 'a', Glyph: 3}, api.Char{Code: 'b', Glyph: 3}, api.Char{Code: 'c', Glyph: 8})
	all := make([]api.Char, 37)
	for k, c := range []byte("-" + digits + letters) {
		all[k] = api.Char{Code: int(c), Glyph: k % 9}
	}
	check(api.OK, all...)
	for n := range all {
		check(api.OK, slices.Delete(slices.Clone(all), n, n+1)...)
		check(api.ErrChar, slices.Insert(slices.Clone(all), n, all[n])...)
		if n > 0 {
			swapped := slices.Clone(all)
			swapped[n-1], swapped[n] = all[n], all[n-1]
			check(api.ErrChar, swapped...)
		}
	}
	// There are fewer characters than a font may have Chars.
	check(api.ErrChar, slices.Repeat(all, 2)[:64]...)
	check(api.ErrMany, slices.Repeat(all, 2)[:65]...)
	check(api.ErrChar, make([]api.Char, 64)...)
	check(api.ErrMany, make([]api.Char, 65)...)
	check(api.ErrMany, make([]api.Char, 100000)...)
}

// P10.1: lookups.
func TestLookups(t *testing.T) {
	check := func(want api.Errno, l ...api.Lookup) {
		t.Helper()
		checkError(t, with(whole(), func(f *api.Font) { f.Lookups = l }), want)
	}
	good := api.Sub{From: []int{8}}
	for n := range 8 {
		want := api.OK
		if n > 4 {
			want = api.ErrMany
		}
		check(want, make([]api.Lookup, n)...)
		check(want, slices.Repeat([]api.Lookup{{Subs: []api.Sub{good}}}, n)...)
	}
	for _, n := range []int{0, 1, 23, 24, 25, 26, 96, 1000} {
		want := api.OK
		if n > 24 {
			want = api.ErrMany
		}
		many := api.Lookup{Subs: slices.Repeat([]api.Sub{good}, n)}
		check(want, many)
		check(want, api.Lookup{Subs: []api.Sub{good}}, many)
		check(want, many, api.Lookup{}, many, many)
	}
	// Too many substitutions anywhere are found before one that is wrong.
	wrong := api.Lookup{Subs: []api.Sub{{}}}
	check(api.ErrLookup, wrong)
	check(api.ErrMany, wrong, api.Lookup{Subs: make([]api.Sub, 25)})
	check(api.ErrMany, api.Lookup{Subs: make([]api.Sub, 25)}, wrong)
	check(api.ErrLookup, wrong, api.Lookup{Subs: make([]api.Sub, 24)})
	check(api.ErrMany, wrong, wrong, wrong, wrong, wrong)
}

// P10.1: substitutions, in the first and in later places.
func TestSubs(t *testing.T) {
	good := api.Sub{Before: []int{1}, From: []int{8}, After: []int{2, 2}, To: 0}
	check := func(want api.Errno, s api.Sub) {
		t.Helper()
		for _, l := range [][]api.Lookup{
			{{Subs: []api.Sub{s}}},
			{{Subs: []api.Sub{good, good, s}}},
			{{Subs: []api.Sub{good}}, {}, {Subs: []api.Sub{good}}, {Subs: []api.Sub{s, good}}},
		} {
			checkError(t, with(whole(), func(f *api.Font) { f.Lookups = l }), want)
		}
	}
	for n := range 6 {
		for _, g := range []int{0, 8} {
			l := slices.Repeat([]int{g}, n)
			fromErrno, contextErrno := api.OK, api.OK
			if n < 1 || n > 3 {
				fromErrno = api.ErrLookup
			}
			if n > 2 {
				contextErrno = api.ErrLookup
			}
			check(fromErrno, api.Sub{From: l})
			check(fromErrno, api.Sub{Before: []int{1, 2}, From: l, After: []int{3}, To: 8})
			check(contextErrno, api.Sub{Before: l, From: []int{3}})
			check(contextErrno, api.Sub{From: []int{3, 3, 3}, After: l, To: 8})
		}
	}
	check(api.OK, api.Sub{Before: []int{0, 8}, From: []int{8, 0, 8}, After: []int{8, 0}, To: 8})
	for _, n := range append([]int{-1, 9, 10, 96}, extremes...) {
		check(api.ErrLookup, api.Sub{From: []int{1}, To: n})
		for k := range 3 {
			from := []int{1, 2, 3}
			from[k] = n
			check(api.ErrLookup, api.Sub{From: from})
			if k < 2 {
				check(api.ErrLookup, api.Sub{Before: from[:2], From: []int{1}})
				check(api.ErrLookup, api.Sub{From: []int{1}, After: from[:2]})
			}
		}
	}
}

// P10.1: kerning pairs.
func TestKerns(t *testing.T) {
	check := func(want api.Errno, l ...api.Kern) {
		t.Helper()
		checkError(t, with(whole(), func(f *api.Font) { f.Kerns = l }), want)
	}
	check(api.OK)
	for _, n := range append([]int{-66, -65, -64, -63, 0, 63, 64, 65, 66}, extremes...) {
		want := api.OK
		if n < -64 || n > 64 {
			want = api.ErrKern
		}
		check(want, api.Kern{By: n})
		check(want, api.Kern{By: 1}, api.Kern{Right: 1}, api.Kern{Left: 8, Right: 8, By: n})
	}
	for _, n := range append([]int{-1, 9, 10, 96}, extremes...) {
		check(api.ErrKern, api.Kern{Left: n})
		check(api.ErrKern, api.Kern{Right: n})
		check(api.ErrKern, api.Kern{Left: 1}, api.Kern{Left: n, Right: 2})
		check(api.ErrKern, api.Kern{Left: 1}, api.Kern{Left: 1, Right: n})
	}
	for a := range 81 {
		for b := range 81 {
			want := api.ErrKern
			if a < b {
				want = api.OK
			}
			check(want, api.Kern{Left: a / 9, Right: a % 9, By: 9}, api.Kern{Left: b / 9, Right: b % 9, By: -9})
		}
	}
	check(api.ErrKern, api.Kern{}, api.Kern{Left: 1}, api.Kern{Left: 1})
	check(api.ErrKern, api.Kern{}, api.Kern{Left: 2}, api.Kern{Left: 1})
	check(api.ErrKern, api.Kern{}, api.Kern{Right: 2}, api.Kern{Right: 1})
	many := make([]api.Kern, 81)
	for k := range many {
		many[k] = api.Kern{Left: k / 9, Right: k % 9}
	}
	check(api.OK, many[:63]...)
	check(api.OK, many[:64]...)
	check(api.ErrMany, many[:65]...)
	check(api.ErrMany, make([]api.Kern, 65)...)
	check(api.ErrKern, make([]api.Kern, 64)...)
	check(api.ErrMany, make([]api.Kern, 100000)...)
}
