package glyph_test

import (
	"fmt"
	"math/rand/v2"
	"reflect"
	"slices"
	"strings"
	"testing"

	"indelible/api"
	"indelible/font"
	"indelible/glyph"
	"indelible/outline"
	"indelible/verify"
)

// source makes arguments, always the same ones for a seed.
type source struct{ *rand.Rand }

func newSource(seed uint64) source { return source{rand.New(rand.NewPCG(seed, 11))} }

// within returns a number from low to high, the ends more often than others.
func (r source) within(low, high int) int {
	switch r.IntN(8) {
	case 0:
		return low
	case 1:
		return high
	}
	return low + r.IntN(high-low+1)
}

// font returns a font that is valid. Most of its glyphs can be drawn.
func (r source) font(t *testing.T) api.Font {
	t.Helper()
	f := api.Font{Name: "sans", Axes: make([]api.Axis, r.IntN(4))}
	for k := range f.Axes {
		f.Axes[k].Tag = string(rune('a' + k))
	}
	depths := make([]int, 1+r.IntN(8))
	for i := range depths {
		g := api.Glyph{Name: fmt.Sprint("g", i), Advance: r.IntN(99)}
		far := []int{20, 60, 150, 512}[r.IntN(4)]
		if r.IntN(2) == 0 {
			depths[i] = r.parts(&g, depths[:i], far)
		}
		if len(g.Parts) == 0 {
			r.shape(&g, len(f.Axes), far)
		}
		f.Glyphs = append(f.Glyphs, g)
	}
	if errno := font.Check(f); errno != api.OK {
		t.Fatalf("the font %v has the error %v", brief(f), errno)
	}
	return copied(f)
}

// parts gives a glyph parts, and returns its depth.
func (r source) parts(g *api.Glyph, depths []int, far int) int {
	depth := 0
	for range 4 {
		if len(depths) == 0 || r.IntN(4) == 0 {
			break
		}
		k := r.IntN(len(depths))
		if depths[k] < 3 {
			g.Parts = append(g.Parts, api.Part{Glyph: k, X: r.within(-far, far), Y: r.within(-far, far)})
			depth = max(depth, depths[k]+1)
		}
	}
	return depth
}

// shape gives a glyph an outline, deltas and a hint.
func (r source) shape(g *api.Glyph, axes, far int) {
	for range r.IntN(4) {
		c := make([]api.Point, 3+r.IntN(4))
		for k := range c {
			c[k] = api.Point{X: r.within(-far, far), Y: r.within(-far, far), On: k == 0 || r.IntN(2) == 0}
		}
		g.Outline = append(g.Outline, c)
	}
	points := len(slices.Concat(g.Outline...))
	for range r.IntN(4) {
		d := api.Delta{Region: make([]api.Tent, axes), Moves: make([]api.Move, points)}
		for k := range d.Region {
			l := []int{r.within(0, 64), r.within(0, 64), r.within(0, 64)}
			slices.Sort(l)
			d.Region[k] = api.Tent{Low: l[0], Peak: l[1], High: l[2]}
			if r.IntN(2) == 0 {
				d.Region[k] = api.Tent{Low: -l[2], Peak: -l[1], High: -l[0]}
			}
		}
		for k := range d.Moves {
			d.Moves[k] = api.Move{X: r.within(-far, far), Y: r.within(-far, far)}
		}
		g.Deltas = append(g.Deltas, d)
	}
	g.Hint = r.hint(points)
}

// hints are programs, in which P and Q stand for points.
var hints = []string{
	"getx P; round; setx P",
	"gety P; round; sety P",
	"getx P; getx Q; add; half; setx Q",
	"size; push 12; sub; if 3; gety P; push 64; max; sety Q",
	"size; setx P; getx Q; neg; sety Q",
	"loop 4 4; getx P; size; add; setx Q",
	"if 1",
	"push -70; sety Q",
}

// hint returns a program that is verified for so many points.
func (r source) hint(points int) []api.Op {
	var l []api.Op
	for range r.IntN(4) {
		s := hints[r.IntN(len(hints))]
		if r.IntN(60) == 0 {
			s = "push 1000000000; setx P"
		}
		s = strings.NewReplacer("P", fmt.Sprint(r.IntN(points+1)), "Q", fmt.Sprint(r.IntN(points+1))).Replace(s)
		if _, errno := verify.Check(hint(s), points); errno == api.OK {
			l = append(l, hint(s)...)
		}
	}
	return l
}

// positions returns a position on each axis of a font.
func (r source) positions(f api.Font) []int {
	at := make([]int, len(f.Axes))
	for k := range at {
		at[k] = r.within(-64, 64)
	}
	return at
}

// P11.1 to P11.5: random fonts.
func TestRandomFonts(t *testing.T) {
	r := newSource(1)
	results := map[api.Errno]int{}
	for range 3000 {
		f := r.font(t)
		for g := range f.Glyphs {
			results[checkBoth(t, f, g, r.positions(f), r.within(6, 24))]++
			checkUsed(t, f, g, used(f, g)...)
		}
	}
	if results[api.OK] < 4000 || results[api.ErrSize] < 1000 || results[api.ErrRange] < 50 {
		t.Errorf("errors of Draw: %v", results)
	}
}

// strange returns a number that now and then is another one.
func (r source) strange(n int) int {
	if l := append(slices.Clone(extremes), -65, -1, 0, 1, 65); r.IntN(6) == 0 {
		return l[r.IntN(len(l))]
	}
	return n
}

// P1, P11.1: random fonts with any numbers, and any other arguments.
func TestAnyArguments(t *testing.T) {
	r := newSource(2)
	results := map[api.Errno]int{}
	for k := range 20000 {
		f := r.font(t)
		at := append(r.positions(f), 0)
		for i := range at {
			at[i] = r.strange(at[i])
		}
		at = at[:min(max(0, len(f.Axes)+r.within(-9, 9)/8), len(at))]
		if k%3 == 0 {
			each(reflect.ValueOf(&f).Elem(), func(v reflect.Value) {
				if v.Kind() == reflect.Int && r.IntN(20) == 0 {
					v.SetInt(int64(r.strange(r.within(-2, 12))))
				}
			})
		}
		g, size := r.strange(r.IntN(len(f.Glyphs))), r.strange(r.within(6, 24))
		results[checkBoth(t, f, g, at, size)]++
		checkUsed(t, f, g, used(f, g)...)
	}
	for _, errno := range []api.Errno{api.OK, api.ErrArg, api.ErrRange, api.ErrRegion, api.ErrSize, api.ErrGlyph} {
		if results[errno] < 50 {
			t.Errorf("%v was the result %d times", errno, results[errno])
		}
	}
}

// each calls visit for a value and all values in it, which it may change.
func each(v reflect.Value, visit func(v reflect.Value)) {
	visit(v)
	switch v.Kind() {
	case reflect.Struct:
		for k := range v.NumField() {
			each(v.Field(k), visit)
		}
	case reflect.Slice:
		for k := range v.Len() {
			each(v.Index(k), visit)
		}
	}
}

// checkAlike checks that a glyph has the same outline and picture in another font, where it has another index.
func checkAlike(t *testing.T, f api.Font, g int, other api.Font, as int, at []int, size int) {
	t.Helper()
	if errno := font.Check(other); errno != api.OK {
		t.Errorf("the font %v has the error %v", brief(other), errno)
	}
	o, errno := glyph.Outline(f, g, at, size)
	checkOutline(t, other, as, at, size, o, errno)
	p, errno := glyph.Draw(f, g, at, size)
	checkDraw(t, other, as, at, size, p, errno)
}

// P11.6: glyphs that are added, taken away or changed, and other tables.
func TestGlyphsThatAreNotUsed(t *testing.T) {
	r := newSource(3)
	unused := 0
	for range 300 {
		f := r.font(t)
		at, size := r.positions(f), r.within(6, 24)
		for g := range f.Glyphs {
			uses := glyph.Used(f, g)
			more := with(f, func(f *api.Font) {
				r.tables(f)
				f.Glyphs = append(f.Glyphs, api.Glyph{Name: "new", Outline: rectangle(0, 0, 9, 9)}, api.Glyph{Name: "newer", Parts: []api.Part{{Glyph: len(f.Glyphs)}}})
			})
			checkAlike(t, f, g, more, g, at, size)
			checkAlike(t, f, g, with(f, func(f *api.Font) { f.Glyphs = f.Glyphs[:g+1] }), g, at, size)
			checkAlike(t, f, g, preceded(f), g+1, at, size)
			for i := range f.Glyphs {
				if slices.Contains(uses, i) {
					continue
				}
				unused++
				for _, x := range []api.Glyph{{}, {Outline: rectangle(-9, -9, 99, 9)}} {
					x.Name = "changed"
					checkAlike(t, f, g, with(f, func(f *api.Font) { f.Glyphs[i] = x }), g, at, size)
				}
			}
			checkAlike(t, f, g, alone(f, uses), len(uses)-1, at, size)
		}
	}
	if unused < 2000 {
		t.Errorf("only %d glyphs were not used", unused)
	}
}

// tables changes all tables of a font but its glyphs and the number of its axes, and what is no shape in the glyphs.
func (r source) tables(f *api.Font) {
	n := len(f.Glyphs)
	f.Name, f.Version = "serif", 9999
	for k := range f.Axes {
		f.Axes[k] = api.Axis{Tag: strings.Repeat("z", k+1), Low: -1000, Usual: -999, High: 1000}
	}
	for i := range f.Glyphs {
		g := &f.Glyphs[i]
		g.Name, g.Advance = fmt.Sprint("n", n-i), 512-g.Advance
		if n > 1 {
			g.Alts = []int{(i + 1) % n}
		}
	}
	f.Chars = []api.Char{{Code: 'a', Glyph: r.IntN(n)}}
	f.Lookups = []api.Lookup{{Subs: []api.Sub{{From: []int{r.IntN(n)}, To: r.IntN(n)}}}}
	f.Kerns = []api.Kern{{Left: r.IntN(n), Right: r.IntN(n), By: 64}}
}

// preceded returns a font with one more glyph before all others.
func preceded(f api.Font) api.Font {
	f = copied(f)
	for i := range f.Glyphs {
		for k := range f.Glyphs[i].Parts {
			f.Glyphs[i].Parts[k].Glyph++
		}
	}
	f.Glyphs = slices.Insert(f.Glyphs, 0, api.Glyph{Name: "first", Outline: rectangle(0, 0, 30, 30)})
	return f
}

// alone returns a font with some glyphs, which are increasing, and no others.
func alone(f api.Font, l []int) api.Font {
	f = copied(f)
	var kept []api.Glyph
	for _, i := range l {
		g := f.Glyphs[i]
		for k, p := range g.Parts {
			g.Parts[k].Glyph = slices.Index(l, p.Glyph)
		}
		kept = append(kept, g)
	}
	f.Glyphs = kept
	return f
}

// P11.7
func TestCompositeGlyphsWithASinglePart(t *testing.T) {
	r := newSource(4)
	drawn, empty := 0, 0
	for range 3000 {
		f := r.font(t)
		part := api.Part{Glyph: r.IntN(len(f.Glyphs)), X: r.within(-512, 512), Y: r.within(-512, 512)}
		f.Glyphs = append(f.Glyphs, api.Glyph{Name: "single", Parts: []api.Part{part}})
		if font.Check(f) != api.OK { // the depth is 4
			continue
		}
		at, size := r.positions(f), r.within(6, 24)
		p, errno := glyph.Draw(f, part.Glyph, at, size)
		whole, wholeErrno := glyph.Draw(f, len(f.Glyphs)-1, at, size)
		if errno != wholeErrno { // no point is so near to the ends of the range that only one of them is beyond
			t.Errorf("the errors of the part %v and of the whole of %v are %v and %v", part, brief(f), errno, wholeErrno)
		}
		if errno != api.OK {
			continue
		}
		if o, _ := glyph.Outline(f, part.Glyph, at, size); outline.Count(o) > 0 {
			p.Left += nearestDot(part.X, size) / 64
			p.Low += nearestDot(part.Y, size) / 64
			drawn++
		} else {
			empty++
		}
		if !equalPictures(whole, p) {
			t.Errorf("the part %v makes the picture %v at the size %d, want %v", part, whole, size, p)
		}
	}
	if drawn < 1000 || empty < 300 {
		t.Errorf("%d pictures had points, %d had none", drawn, empty)
	}
}

// P11.8: points that are not in Reach, and those that are.
func TestPointsThatAreNotInReach(t *testing.T) {
	r := newSource(5)
	still, moving := 0, 0
	for range 5000 {
		f := r.font(t)
		at, size := r.positions(f), r.within(6, 24)
		for i, g := range f.Glyphs {
			facts, errno := verify.Check(g.Hint, outline.Count(g.Outline))
			if errno != api.OK || len(g.Parts) > 0 {
				continue
			}
			instance, _ := outline.Instance(g.Outline, g.Deltas, at)
			got, _ := glyph.Outline(f, i, at, size)
			want, l := slices.Concat(scaled(instance, size)...), slices.Concat(got...)
			if len(l) != len(want) || len(got) != len(instance) {
				t.Fatalf("the glyph %v has the outline %v", g, got)
			}
			for k := range l {
				switch {
				case slices.Contains(facts.Reach, k):
					moving++
				case l[k] != want[k]:
					t.Errorf("the point %d of %v is %v at %v, size %d, want %v", k, g, l[k], at, size, want[k])
				default:
					still++
				}
				if l[k].On != want[k].On {
					t.Errorf("the point %d of %v is %v", k, g, l[k])
				}
			}
		}
	}
	if still < 10000 || moving < 5000 {
		t.Errorf("%d points were in Reach, %d were not", moving, still)
	}
}

// P11.8
func TestPointsInReach(t *testing.T) {
	square := rectangle(0, 0, 10, 20)
	for k, want := range map[int]contours{
		0: {{on(7, 0), on(80, 0), on(80, 160), on(0, 160)}},
		1: {{on(0, 0), on(7, 0), on(80, 160), on(0, 160)}},
		2: {{on(0, 0), on(80, 0), on(7, 160), on(0, 160)}},
		3: {{on(0, 0), on(80, 0), on(80, 160), on(7, 160)}},
	} {
		f := extended(api.Glyph{Outline: square, Hint: []api.Op{{Code: api.OpPush, N: 7}, {Code: api.OpSetX, N: k}}})
		checkOutline(t, f, 3, []int{0}, 8, want, api.OK)
	}
}

// roomy gives the slices of a font space behind their ends, in which something lies.
func roomy(f *api.Font) {
	each(reflect.ValueOf(f).Elem(), func(v reflect.Value) {
		if v.Kind() == reflect.Slice {
			v.Set(reflect.AppendSlice(v, v).Slice(0, v.Len()))
		}
	})
}

// R3, R4: arguments stay as they are, even behind their ends; results have memory of their own, and come again.
func TestArgumentsAndResults(t *testing.T) {
	r := newSource(6)
	for range 1000 {
		f := r.font(t)
		roomy(&f)
		before := entire(f)
		at := append(r.positions(f), 77)[:len(f.Axes)]
		g, size := r.IntN(len(f.Glyphs)), r.within(6, 24)
		for range 2 {
			checkBoth(t, f, g, at, size)
			o, _ := glyph.Outline(f, g, at, size)
			checkOwn(t, o)
			p, _ := glyph.Draw(f, g, at, size)
			for k := range p.Map.Dots {
				p.Map.Dots[k] = !p.Map.Dots[k]
			}
			l := glyph.Used(f, g)
			for k := range l {
				l[k] = 77
			}
			checkUsed(t, f, g, used(f, g)...)
			if !reflect.DeepEqual(entire(f), before) || at[:len(at)+1][len(at)] != 77 {
				t.Fatalf("the font %v or the positions %v were changed, directly or by what a result shares with them", brief(before), at)
			}
		}
	}
}

// checkOwn checks that no two contours share memory. It changes all of them.
func checkOwn(t *testing.T, o contours) {
	t.Helper()
	for k, c := range o {
		for i := range c[:cap(c)] {
			c[:cap(c)][i].X = k
		}
	}
	for k, c := range o {
		for _, p := range c[:cap(c)] {
			if p.X != k {
				t.Fatalf("the contour %d shares memory with the contour %d", k, p.X)
			}
		}
	}
}

// R3: a glyph that is a part twice has contours of its own for each of them.
func TestPartsHaveTheirOwnMemory(t *testing.T) {
	f := parts(api.Part{Glyph: 1}, api.Part{Glyph: 1}, api.Part{Glyph: 2}, api.Part{Glyph: 1})
	o, errno := glyph.Outline(f, 3, []int{0}, 8)
	if errno != api.OK || len(o) != 5 {
		t.Fatalf("the outline is %v, %v", o, errno)
	}
	checkOwn(t, o)
}

// R1
func TestNilAndEmpty(t *testing.T) {
	empty := api.Glyph{Name: "a", Outline: contours{}, Deltas: []api.Delta{}, Parts: []api.Part{}, Hint: []api.Op{}, Alts: []int{}}
	for _, f := range []api.Font{
		{Name: "sans", Glyphs: []api.Glyph{{Name: "a"}}},
		{Name: "sans", Axes: []api.Axis{}, Glyphs: []api.Glyph{empty}, Chars: []api.Char{}, Lookups: []api.Lookup{}, Kerns: []api.Kern{}},
	} {
		for _, at := range [][]int{nil, {}, make([]int, 0, 9)} {
			checkOutline(t, f, 0, at, 8, nil, api.OK)
			checkDraw(t, f, 0, at, 8, api.Picture{}, api.OK)
		}
		checkUsed(t, f, 0, 0)
	}
	square := rectangle(0, 0, 8, 8)
	for _, deltas := range [][]api.Delta{nil, {}, {{Moves: make([]api.Move, 4)}}, {{Region: []api.Tent{}, Moves: make([]api.Move, 4)}}} {
		f := api.Font{Name: "sans", Glyphs: []api.Glyph{{Name: "a", Outline: square, Deltas: deltas}}}
		checkOutline(t, f, 0, nil, 8, scaled(square, 8), api.OK)
		checkDraw(t, f, 0, []int{}, 8, picture(0, 0, "..", "#."), api.OK)
	}
}
