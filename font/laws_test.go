package font_test

import (
	"cmp"
	"fmt"
	"math/rand/v2"
	"reflect"
	"slices"
	"testing"

	"indelible/api"
	"indelible/axis"
	"indelible/font"
	"indelible/outline"
)

// source makes arguments, always the same ones for a seed.
type source struct{ *rand.Rand }

func newSource(seed uint64) source { return source{rand.New(rand.NewPCG(seed, 10))} }

// within returns a number from low to high, the ends more often than others.
func (r source) within(low, high int) int {
	switch r.IntN(8) {
	case 0:
		return low
	case 1:
		return high
	}
	return low + r.IntN(high-low+1)
}

// name returns a name with some permitted bytes.
func (r source) name(of string) string {
	s := make([]byte, r.within(1, 12))
	for k := range s {
		s[k] = of[r.IntN(len(of))]
	}
	return string(s)
}

// some returns a few different numbers from 0 to n - 1.
func (r source) some(n, most int) []int { return r.Perm(n)[:r.IntN(min(n, most)+1)] }

// font returns a font that is valid.
func (r source) font() api.Font {
	f := api.Font{Name: r.name(letters), Version: r.within(0, 9999)}
	for k := range r.IntN(4) {
		low := r.within(-1000, 1000)
		usual := r.within(low, 1000)
		f.Axes = append(f.Axes, api.Axis{Tag: letters[k : k+1+r.IntN(4)], Low: low, Usual: usual, High: r.within(usual, 1000)})
	}
	n := 1 + r.IntN(10)
	if r.IntN(50) == 0 {
		n = 96
	}
	f.Glyphs = glyphs(n)
	depths := make([]int, n)
	for i := range f.Glyphs {
		g := &f.Glyphs[i]
		g.Advance = r.within(0, 512)
		if r.IntN(3) == 0 {
			depths[i] = r.parts(g, depths[:i])
		}
		if len(g.Parts) == 0 {
			r.shape(g, len(f.Axes))
		}
		for _, a := range r.some(n, 4) {
			if a != i {
				g.Alts = append(g.Alts, a)
			}
		}
	}
	r.tables(&f)
	return f
}

// parts gives a glyph parts, and returns its depth.
func (r source) parts(g *api.Glyph, depths []int) int {
	depth := 0
	for range r.IntN(5) {
		if len(depths) == 0 {
			break
		}
		k := r.IntN(len(depths))
		if depths[k] < 3 {
			g.Parts = append(g.Parts, api.Part{Glyph: k, X: r.within(-512, 512), Y: r.within(-512, 512)})
			depth = max(depth, depths[k]+1)
		}
	}
	return depth
}

// shape gives a glyph an outline, deltas and a hint.
func (r source) shape(g *api.Glyph, axes int) {
	points := 0
	for range r.IntN(4) {
		c := make([]api.Point, 3+r.IntN(4))
		for k := range c {
			c[k] = api.Point{X: r.within(-512, 512), Y: r.within(-512, 512), On: k == 0 || r.IntN(2) == 0}
		}
		g.Outline = append(g.Outline, c)
		points += len(c)
	}
	for range r.IntN(4) {
		d := api.Delta{Region: make([]api.Tent, axes), Moves: make([]api.Move, points)}
		for k := range d.Region {
			l := []int{r.within(0, 64), r.within(0, 64), r.within(0, 64)}
			slices.Sort(l)
			d.Region[k] = api.Tent{Low: l[0], Peak: l[1], High: l[2]}
		}
		for k := range d.Moves {
			d.Moves[k] = api.Move{X: r.within(-512, 512), Y: r.within(-512, 512)}
		}
		g.Deltas = append(g.Deltas, d)
	}
	for range r.IntN(4) {
		if points > 0 {
			g.Hint = append(g.Hint, api.Op{Code: api.OpPush, N: r.within(-1000, 1000)}, api.Op{Code: api.OpSetX + r.IntN(2), N: r.IntN(points)})
		}
	}
}

// tables gives a font characters, lookups and kerning pairs.
func (r source) tables(f *api.Font) {
	n := len(f.Glyphs)
	for _, c := range []byte("-" + digits + letters) {
		if r.IntN(4) == 0 {
			f.Chars = append(f.Chars, api.Char{Code: int(c), Glyph: r.IntN(n)})
		}
	}
	list := func(least, most int) []int {
		l := make([]int, least+r.IntN(most-least+1))
		for k := range l {
			l[k] = r.IntN(n)
		}
		return l
	}
	for range r.IntN(5) {
		var l api.Lookup
		for range r.IntN(4) {
			l.Subs = append(l.Subs, api.Sub{Before: list(0, 2), From: list(1, 3), After: list(0, 2), To: r.IntN(n)})
		}
		f.Lookups = append(f.Lookups, l)
	}
	for _, k := range r.some(n*n, 8) {
		f.Kerns = append(f.Kerns, api.Kern{Left: k / n, Right: k % n, By: r.within(-64, 64)})
	}
	slices.SortFunc(f.Kerns, func(a, b api.Kern) int {
		return cmp.Or(cmp.Compare(a.Left, b.Left), cmp.Compare(a.Right, b.Right))
	})
}

// spoiled returns a font with a few changes.
func (r source) spoiled(f api.Font) api.Font {
	for range 1 + r.IntN(3) {
		f = changedAt(f, r.IntN(values(f)), func(v reflect.Value) {
			if v.Kind() != reflect.Int || r.IntN(3) == 0 {
				changes[r.IntN(len(changes))](v)
				return
			}
			v.SetInt(int64(r.within(-2, 12)))
		})
	}
	return f
}

// P10.1 to P10.5: fonts that are valid.
func TestValidFonts(t *testing.T) {
	r := newSource(1)
	for range 500 {
		f := r.font()
		checkOK(t, f)
		checkBytes(t, f)
		checkParse(t, f)
		checkSame(t, f, copied(f), true)
		for i, g := range f.Glyphs {
			checkFind(t, f, g.Name, i)
		}
	}
}

// P10.1 to P10.6: fonts that are spoiled in a few places.
func TestSpoiledFonts(t *testing.T) {
	r := newSource(2)
	results := map[api.Errno]int{}
	for range 4000 {
		f := r.font()
		g := r.spoiled(f)
		results[checkFont(t, g)]++
		checkBytes(t, g)
		checkParse(t, g)
		checkSame(t, f, g, equal(f, g))
	}
	for _, errno := range []api.Errno{api.OK, api.ErrMany, api.ErrRange, api.ErrOrder, api.ErrPoint, api.ErrContour, api.ErrRegion, api.ErrDepth, api.ErrForm, api.ErrTarget, api.ErrGlyph, api.ErrPart, api.ErrChar, api.ErrLookup, api.ErrKern, api.ErrName, api.ErrVersion} {
		if results[errno] < 4 {
			t.Errorf("%v was the result %d times", errno, results[errno])
		}
	}
}

// P10.6: different valid fonts have different serializations.
func TestDifferentFonts(t *testing.T) {
	r := newSource(3)
	known := map[string]api.Font{}
	for range 500 {
		f := r.font()
		for _, g := range []api.Font{f, r.spoiled(f), r.spoiled(f), r.spoiled(f)} {
			if font.Check(g) != api.OK {
				continue
			}
			s := font.Bytes(g)
			if other, ok := known[s]; ok && !equal(g, other) {
				t.Errorf("%v and %v have the same bytes", brief(g), brief(other))
			}
			known[s] = g
		}
	}
	if len(known) < 600 {
		t.Errorf("there were only %d fonts", len(known))
	}
}

// shorter calls each for a font without the elements at the end of a list from one on, for all lists that may be shortened.
func shorter(f api.Font, each func(f api.Font)) {
	cut := func(n int, set func(f *api.Font, n int)) {
		for k := range n {
			each(with(f, func(f *api.Font) { set(f, k) }))
		}
	}
	cut(len(f.Chars), func(f *api.Font, n int) { f.Chars = f.Chars[:n] })
	cut(len(f.Lookups), func(f *api.Font, n int) { f.Lookups = f.Lookups[:n] })
	cut(len(f.Kerns), func(f *api.Font, n int) { f.Kerns = f.Kerns[:n] })
	for i, g := range f.Glyphs {
		cut(len(g.Alts), func(f *api.Font, n int) { f.Glyphs[i].Alts = f.Glyphs[i].Alts[:n] })
		cut(len(g.Deltas), func(f *api.Font, n int) { f.Glyphs[i].Deltas = f.Glyphs[i].Deltas[:n] })
	}
}

// P10.6: what stays valid.
func TestFontsThatStayValid(t *testing.T) {
	r := newSource(4)
	for k := range 40 {
		f := r.font()
		if k == 0 {
			f = whole()
		}
		shorter(f, func(f api.Font) {
			checkOK(t, f)
			checkParse(t, f)
		})
		more := with(f, func(f *api.Font) { f.Glyphs = append(f.Glyphs, api.Glyph{Name: "new"}) })
		if len(f.Glyphs) < 96 {
			checkOK(t, more)
			checkParse(t, more)
		} else {
			checkError(t, more, api.ErrMany)
		}
	}
}

// P10.1: a font that is valid passes the checks of the lower layers.
func TestValidFontsInLowerLayers(t *testing.T) {
	r := newSource(5)
	for range 200 {
		f := r.font()
		if errno := axis.Check(f.Axes); errno != api.OK {
			t.Errorf("axis.Check(%v) = %v", f.Axes, errno)
		}
		at := make([]int, len(f.Axes))
		for k := range at {
			at[k] = r.within(-64, 64)
		}
		for _, g := range f.Glyphs {
			if _, errno := outline.Instance(g.Outline, g.Deltas, at); errno != api.OK {
				t.Errorf("Instance of %v at %v = %v", g, at, errno)
			}
		}
	}
}

// P1: fonts with any numbers and strings, and far more elements than permitted.
func TestAnyFonts(t *testing.T) {
	huge := api.Font{Name: "a", Glyphs: glyphs(3)}
	huge.Glyphs[1].Outline = slices.Repeat(contours{{}}, 100000)
	huge.Glyphs[2].Parts = make([]api.Part, 100000)
	checkError(t, huge, api.ErrMany)
	checkBytes(t, huge)
	checkParse(t, huge)
	r := newSource(6)
	for range 2000 {
		f := r.font()
		each(reflect.ValueOf(&f).Elem(), func(v reflect.Value) {
			switch {
			case r.IntN(5) > 0:
			case v.Kind() == reflect.Int:
				v.SetInt(int64(append(extremes, 0, 1, -1)[r.IntN(len(extremes)+3)]))
			case v.Kind() == reflect.String:
				v.SetString(fmt.Sprint(v.String(), r.IntN(3)))
			}
		})
		checkFont(t, f)
		checkBytes(t, f)
		checkParse(t, f)
		checkSame(t, f, copied(f), true)
		checkFind(t, f, "\x00", -1)
		checkOf(t, f, 1<<40, -1)
	}
}

// P1, P10.1: parts that go round in a circle.
func TestCirclesOfParts(t *testing.T) {
	for n := 1; n < 20; n++ {
		f := api.Font{Name: "a", Glyphs: glyphs(n)}
		for i := range f.Glyphs {
			f.Glyphs[i].Parts = []api.Part{{Glyph: (i + 1) % n}}
		}
		checkError(t, f, api.ErrPart)
		checkBytes(t, f)
		checkParse(t, f)
		if n > 2 { // the circle begins after the first glyph
			f.Glyphs[0].Parts, f.Glyphs[n-1].Parts[0].Glyph = nil, 1
			checkError(t, f, api.ErrPart)
		}
	}
}
