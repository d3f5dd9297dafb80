package font_test

import (
	"encoding/binary"
	"fmt"
	"math"
	"reflect"
	"slices"
	"testing"

	"indelible/api"
	"indelible/axis"
	"indelible/font"
	"indelible/outline"
	"indelible/verify"
)

type contours = [][]api.Point

// on returns a point on the curve.
func on(x, y int) api.Point { return api.Point{X: x, Y: y, On: true} }

// off returns a point off the curve.
func off(x, y int) api.Point { return api.Point{X: x, Y: y} }

// example is the font of the document's examples.
func example() api.Font {
	return api.Font{
		Name: "sans",
		Axes: []api.Axis{{Tag: "w", High: 100}},
		Glyphs: []api.Glyph{
			{Name: "blank", Advance: 20},
			{Name: "a", Advance: 40, Outline: contours{{on(0, 0), on(32, 0), on(0, 32)}}},
		},
		Chars: []api.Char{{Code: 97, Glyph: 1}},
	}
}

// wide is a delta for two axes and seven points.
func wide(far int) api.Delta {
	return api.Delta{
		Region: []api.Tent{{Low: -64, Peak: -64, High: 0}, {Low: 0, Peak: 16, High: 64}},
		Moves:  []api.Move{{X: far}, {Y: far}, {X: -3, Y: 4}, {}, {}, {X: 1, Y: 1}, {X: -far, Y: far}},
	}
}

// whole is a font that has something of everything, and more than one where there may be more.
func whole() api.Font {
	shape := contours{{on(0, 0), off(32, -2), on(0, 32)}, {on(5, 5), on(5, 9), off(9, 9), off(-512, 512)}}
	hint := []api.Op{{Code: api.OpGetX, N: 6}, {Code: api.OpRound}, {Code: api.OpSetX, N: 2}, {Code: api.OpLoop, N: 2, M: 2}, {Code: api.OpSize}, {Code: api.OpSetY, N: 6}}
	return copied(api.Font{
		Name:    "sans",
		Version: 7,
		Axes:    []api.Axis{{Tag: "wght", Low: 100, Usual: 400, High: 900}, {Tag: "w", Low: -5}},
		Glyphs: []api.Glyph{
			{Name: "blank", Advance: 20},
			{Name: "a1", Advance: 40, Outline: shape, Deltas: []api.Delta{wide(7), wide(512)}, Hint: hint, Alts: []int{2, 0}},
			{Name: "a2", Advance: 41, Outline: shape, Deltas: []api.Delta{wide(8)}, Alts: []int{8}},
			{Name: "c1", Advance: 80, Parts: []api.Part{{Glyph: 1, X: 3, Y: -4}, {Glyph: 2, X: 5, Y: 6}}, Alts: []int{1, 2, 4, 5}},
			{Name: "c2", Parts: []api.Part{{Glyph: 0}, {Glyph: 3, X: -9}}},
			{Name: "c3", Parts: []api.Part{{Glyph: 4}, {Glyph: 2, Y: 99}, {Glyph: 2}}},
			{Name: "007", Advance: 512},
			{Name: "c7", Advance: 1, Parts: []api.Part{{Glyph: 2, X: 512, Y: -512}, {Glyph: 1}, {Glyph: 3}}, Alts: []int{8, 3}},
			{Name: "z8", Outline: shape[:1], Hint: []api.Op{{Code: api.OpSize}, {Code: api.OpSetX, N: 2}}, Alts: []int{7}},
		},
		Chars:   []api.Char{{Code: '-', Glyph: 0}, {Code: '0', Glyph: 6}, {Code: 'a', Glyph: 1}, {Code: 'z', Glyph: 8}},
		Lookups: []api.Lookup{{Subs: []api.Sub{{From: []int{1}, To: 2}, {Before: []int{0, 1}, From: []int{8, 2, 1}, After: []int{6}, To: 3}}}, {}, {Subs: []api.Sub{{From: []int{2, 2}, After: []int{1, 0}, To: 0}}}},
		Kerns:   []api.Kern{{Left: 0, Right: 8, By: 64}, {Left: 1, Right: 1, By: -5}, {Left: 1, Right: 2, By: -64}},
	})
}

// with returns a font that was changed.
func with(f api.Font, change func(f *api.Font)) api.Font {
	f = copied(f)
	change(&f)
	return f
}

// copied returns a font of its own memory with the same fields; nil stays nil.
func copied(f api.Font) api.Font { return duplicate(reflect.ValueOf(f)).Interface().(api.Font) }

func duplicate(v reflect.Value) reflect.Value {
	d := reflect.New(v.Type()).Elem()
	switch {
	case v.Kind() == reflect.Struct:
		for k := range v.NumField() {
			d.Field(k).Set(duplicate(v.Field(k)))
		}
	case v.Kind() == reflect.Slice && !v.IsNil():
		d.Set(reflect.MakeSlice(v.Type(), v.Len(), v.Len()))
		for k := range v.Len() {
			d.Index(k).Set(duplicate(v.Index(k)))
		}
	default:
		d.Set(v)
	}
	return d
}

// equal compares fonts, nil and empty being the same.
func equal(a, b api.Font) bool { return alike(reflect.ValueOf(a), reflect.ValueOf(b)) }

func alike(v, w reflect.Value) bool {
	switch v.Kind() {
	case reflect.Struct:
		for k := range v.NumField() {
			if !alike(v.Field(k), w.Field(k)) {
				return false
			}
		}
		return true
	case reflect.Slice:
		if v.Len() != w.Len() {
			return false
		}
		for k := range v.Len() {
			if !alike(v.Index(k), w.Index(k)) {
				return false
			}
		}
		return true
	}
	return v.Equal(w)
}

// each calls visit for a value and all values in it, which it may change.
func each(v reflect.Value, visit func(v reflect.Value)) {
	visit(v)
	switch v.Kind() {
	case reflect.Struct:
		for k := range v.NumField() {
			each(v.Field(k), visit)
		}
	case reflect.Slice:
		for k := range v.Len() {
			each(v.Index(k), visit)
		}
	}
}

// values returns the number of values in a font.
func values(f api.Font) int {
	n := 0
	each(reflect.ValueOf(&f).Elem(), func(reflect.Value) { n++ })
	return n
}

// changedAt returns a font in which the value number k was changed.
func changedAt(f api.Font, k int, change func(v reflect.Value)) api.Font {
	f = copied(f)
	n := 0
	each(reflect.ValueOf(&f).Elem(), func(v reflect.Value) {
		if n == k {
			change(v)
		}
		n++
	})
	return f
}

// consists reports whether a string has so many bytes, and all of them are among others.
func consists(s, of string, least, most int) bool {
	for _, c := range []byte(s) {
		if !slices.Contains([]byte(of), c) {
			return false
		}
	}
	return len(s) >= least && len(s) <= most
}

const (
	letters = "abcdefghijklmnopqrstuvwxyz"
	digits  = "0123456789"
)

// model checks a font as the document says; the first error is kept.
type model struct {
	f     api.Font
	errno api.Errno
}

// unless notes an error, if it is the first one, unless something holds, which is looked at only as long as there is no error.
func (m *model) unless(errno api.Errno, holds func() bool) {
	if m.errno == api.OK && !holds() {
		m.errno = errno
	}
}

// none notes an error of another layer.
func (m *model) none(errno func() api.Errno) {
	if m.errno == api.OK {
		m.errno = errno()
	}
}

// glyphs reports whether all numbers are indices of glyphs.
func (m *model) glyphs(l ...int) bool {
	for _, n := range l {
		if n < 0 || n > len(m.f.Glyphs)-1 {
			return false
		}
	}
	return true
}

// checked returns what Check promises.
func checked(f api.Font) api.Errno {
	m := model{f: f}
	m.unless(api.ErrName, func() bool { return consists(f.Name, letters, 1, 12) })
	m.unless(api.ErrVersion, func() bool { return f.Version >= 0 && f.Version <= 9999 })
	m.none(func() api.Errno { return axis.Check(f.Axes) })
	m.unless(api.ErrMany, func() bool { return len(f.Glyphs) >= 1 && len(f.Glyphs) <= 96 })
	depths := map[int]int{}
	for i := 0; i < len(f.Glyphs) && m.errno == api.OK; i++ {
		m.glyph(i, f.Glyphs[i], depths)
	}
	m.unless(api.ErrMany, func() bool { return len(f.Chars) <= 64 })
	last := -1
	for _, c := range f.Chars {
		m.unless(api.ErrChar, func() bool {
			return c.Code > last && c.Code < 256 && consists(string([]byte{byte(c.Code)}), letters+digits+"-", 1, 1) && m.glyphs(c.Glyph)
		})
		last = c.Code
	}
	m.lookups()
	m.unless(api.ErrMany, func() bool { return len(f.Kerns) <= 64 })
	for i, k := range f.Kerns {
		m.unless(api.ErrKern, func() bool { return m.glyphs(k.Left, k.Right) && k.By >= -64 && k.By <= 64 })
		m.unless(api.ErrKern, func() bool {
			return i == 0 || f.Kerns[i-1].Left < k.Left || f.Kerns[i-1].Left == k.Left && f.Kerns[i-1].Right < k.Right
		})
	}
	return m.errno
}

// near reports whether all numbers are from -512 to 512.
func near(l ...int) bool { return slices.Min(l) >= -512 && slices.Max(l) <= 512 }

// glyph checks the glyph i; depths has the depths of those before it.
func (m *model) glyph(i int, g api.Glyph, depths map[int]int) {
	m.unless(api.ErrName, func() bool { return consists(g.Name, letters+digits, 1, 12) })
	for _, e := range m.f.Glyphs[:i] {
		m.unless(api.ErrTwice, func() bool { return e.Name != g.Name })
	}
	m.unless(api.ErrRange, func() bool { return g.Advance >= 0 && g.Advance <= 512 })
	if len(g.Parts) > 0 {
		m.unless(api.ErrGlyph, func() bool { return len(g.Outline)+len(g.Deltas)+len(g.Hint) == 0 })
		m.unless(api.ErrMany, func() bool { return len(g.Parts) <= 4 })
		for _, p := range g.Parts {
			m.unless(api.ErrPart, func() bool { return p.Glyph >= 0 && p.Glyph < i && near(p.X, p.Y) })
			depths[i] = max(depths[i], depths[p.Glyph]+1)
		}
		m.unless(api.ErrDepth, func() bool { return depths[i] <= 3 })
	} else {
		m.simple(g)
	}
	m.unless(api.ErrMany, func() bool { return len(g.Alts) <= 4 })
	for k, a := range g.Alts {
		m.unless(api.ErrGlyph, func() bool { return m.glyphs(a) && a != i && slices.Index(g.Alts, a) == k })
	}
}

func (m *model) simple(g api.Glyph) {
	m.none(func() api.Errno { return outline.Check(g.Outline) })
	points := len(slices.Concat(g.Outline...))
	m.unless(api.ErrMany, func() bool { return len(g.Deltas) <= 8 })
	for _, d := range g.Deltas {
		m.unless(api.ErrRegion, func() bool { return axis.Fits(d.Region, len(m.f.Axes)) })
		m.unless(api.ErrRegion, func() bool { return len(d.Moves) == points })
		for _, v := range d.Moves {
			m.unless(api.ErrPoint, func() bool { return near(v.X, v.Y) })
		}
	}
	m.none(func() api.Errno {
		_, errno := verify.Check(g.Hint, points)
		return errno
	})
}

func (m *model) lookups() {
	m.unless(api.ErrMany, func() bool { return len(m.f.Lookups) <= 4 })
	for _, l := range m.f.Lookups {
		m.unless(api.ErrMany, func() bool { return len(l.Subs) <= 24 })
	}
	for _, l := range m.f.Lookups {
		for _, s := range l.Subs {
			m.unless(api.ErrLookup, func() bool { return len(s.From) >= 1 && len(s.From) <= 3 })
			m.unless(api.ErrLookup, func() bool { return len(s.Before) <= 2 && len(s.After) <= 2 })
			m.unless(api.ErrLookup, func() bool { return m.glyphs(slices.Concat(s.Before, s.From, s.After, []int{s.To})...) })
		}
	}
}

// token is a number, or a string, of a serialization. The length of a list of numbers says how many of them belong to each element.
type token struct {
	n      int
	s      string
	isText bool
	each   int
}

func (t token) bytes() string {
	if t.isText {
		return string(binary.AppendVarint(nil, int64(len(t.s)))) + t.s
	}
	return string(binary.AppendVarint(nil, int64(t.n)))
}

func joined(l []token) string {
	var s []byte
	for _, t := range l {
		s = append(s, t.bytes()...)
	}
	return string(s)
}

// writer collects tokens.
type writer struct{ l []token }

func (w *writer) text(s string) { w.l = append(w.l, token{s: s, isText: true}) }

func (w *writer) int(n int) { w.l = append(w.l, token{n: n}) }

// ints writes a list of n elements with so many numbers each.
func (w *writer) ints(n, each int, numbers func(i int) []int) {
	w.l = append(w.l, token{n: n * each, each: each})
	for i := range n {
		for _, x := range numbers(i)[:each] {
			w.int(x)
		}
	}
}

// list writes a list of numbers.
func (w *writer) list(l []int) { w.ints(len(l), 1, func(i int) []int { return l[i:] }) }

// tokens returns what Bytes promises, as numbers and strings.
func tokens(f api.Font) []token {
	w := &writer{}
	w.text(f.Name)
	w.int(f.Version)
	w.int(len(f.Axes))
	for _, a := range f.Axes {
		w.text(a.Tag)
		w.ints(1, 3, func(int) []int { return []int{a.Low, a.Usual, a.High} })
	}
	w.int(len(f.Glyphs))
	for _, g := range f.Glyphs {
		w.glyph(g)
	}
	w.ints(len(f.Chars), 2, func(i int) []int { return []int{f.Chars[i].Code, f.Chars[i].Glyph} })
	w.int(len(f.Lookups))
	for _, l := range f.Lookups {
		w.int(len(l.Subs))
		for _, s := range l.Subs {
			w.list(s.Before)
			w.list(s.From)
			w.list(s.After)
			w.int(s.To)
		}
	}
	w.ints(len(f.Kerns), 3, func(i int) []int { return []int{f.Kerns[i].Left, f.Kerns[i].Right, f.Kerns[i].By} })
	return w.l
}

func (w *writer) glyph(g api.Glyph) {
	w.text(g.Name)
	w.int(g.Advance)
	w.int(len(g.Outline))
	for _, c := range g.Outline {
		w.ints(len(c), 3, func(i int) []int { return []int{c[i].X, c[i].Y, map[bool]int{true: 1}[c[i].On]} })
	}
	w.int(len(g.Deltas))
	for _, d := range g.Deltas {
		w.ints(len(d.Region), 3, func(i int) []int { return []int{d.Region[i].Low, d.Region[i].Peak, d.Region[i].High} })
		w.ints(len(d.Moves), 2, func(i int) []int { return []int{d.Moves[i].X, d.Moves[i].Y} })
	}
	w.ints(len(g.Parts), 3, func(i int) []int { return []int{g.Parts[i].Glyph, g.Parts[i].X, g.Parts[i].Y} })
	w.ints(len(g.Hint), 3, func(i int) []int { return []int{g.Hint[i].Code, g.Hint[i].N, g.Hint[i].M} })
	w.list(g.Alts)
}

// brief returns the beginning of the text of a font, for messages.
func brief(f api.Font) string {
	s := fmt.Sprintf("%+v", f)
	if len(s) > 600 {
		return s[:600] + ".."
	}
	return s
}

// checkFont compares what Check says of a font with what it promises, and returns it.
func checkFont(t *testing.T, f api.Font) api.Errno {
	t.Helper()
	before := copied(f)
	want := checked(f)
	if got := font.Check(f); got != want {
		t.Errorf("Check(%v) = %v, want %v", brief(f), got, want)
	}
	if !equal(f, before) {
		t.Errorf("Check made %v of %v", brief(f), brief(before))
	}
	return want
}

// checkOK checks that a font is valid.
func checkOK(t *testing.T, f api.Font) {
	t.Helper()
	checkError(t, f, api.OK)
}

// checkError checks what Check says of a font.
func checkError(t *testing.T, f api.Font, want api.Errno) {
	t.Helper()
	if model := checkFont(t, f); model != want {
		t.Errorf("the error of %v should be %v, but is %v", brief(f), want, model)
	}
}

// extremes are integers far beyond all limits.
var extremes = []int{math.MinInt, math.MinInt + 1, -1 << 32, -10000, 10000, 1 << 32, math.MaxInt - 1, math.MaxInt}
