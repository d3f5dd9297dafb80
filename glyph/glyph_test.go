package glyph_test

import (
	"fmt"
	"math"
	"reflect"
	"slices"
	"testing"

	"indelible/api"
	"indelible/font"
	"indelible/glyph"
	"indelible/machine"
	"indelible/outline"
	"indelible/raster"
	"indelible/verify"
)

type contours = [][]api.Point

// on returns a point on the curve.
func on(x, y int) api.Point { return api.Point{X: x, Y: y, On: true} }

// off returns a point off the curve.
func off(x, y int) api.Point { return api.Point{X: x, Y: y} }

// rectangle returns an outline of four points, counterclockwise.
func rectangle(x0, y0, x1, y1 int) contours {
	return contours{{on(x0, y0), on(x1, y0), on(x1, y1), on(x0, y1)}}
}

// hint returns the program with a text.
func hint(s string) []api.Op {
	p, ok := verify.Parse(s)
	if !ok {
		panic(s + " is not the text of a program")
	}
	return p
}

// rising is the region whose weight is 64 times the position, from 0 on.
var rising = []api.Tent{{Low: 0, Peak: 64, High: 64}}

// falling is the same on the other side.
var falling = []api.Tent{{Low: -64, Peak: -64, High: 0}}

// example is the font of the document's examples.
func example() api.Font {
	return copied(api.Font{
		Name: "sans",
		Axes: []api.Axis{{Tag: "w", High: 64}},
		Glyphs: []api.Glyph{
			{Name: "blank", Advance: 20},
			{
				Name:    "bar",
				Advance: 32,
				Outline: rectangle(8, 0, 24, 48),
				Deltas:  []api.Delta{{Region: rising, Moves: []api.Move{{}, {X: 8}, {X: 8}, {}}}},
				Hint:    hint("getx 0; round; setx 0"),
			},
			{Name: "bars", Advance: 64, Parts: []api.Part{{Glyph: 1}, {Glyph: 1, X: 32}}},
		},
	})
}

// extended returns the font of the examples with more glyphs, from the index 3 on, which get names.
func extended(l ...api.Glyph) api.Font {
	f := example()
	for k, g := range l {
		g.Name = fmt.Sprint("g", k+3)
		f.Glyphs = append(f.Glyphs, g)
	}
	return copied(f)
}

// with returns a font that was changed.
func with(f api.Font, change func(f *api.Font)) api.Font {
	f = copied(f)
	change(&f)
	return f
}

// copied returns a font of its own memory with the same fields; nil stays nil.
func copied(f api.Font) api.Font {
	return duplicate(reflect.ValueOf(f), reflect.Value.Len).Interface().(api.Font)
}

// entire returns a copy of a font with all that lies behind the ends of its slices.
func entire(f api.Font) api.Font {
	return duplicate(reflect.ValueOf(f), reflect.Value.Cap).Interface().(api.Font)
}

// duplicate copies a value, and of slices so many elements as length says.
func duplicate(v reflect.Value, length func(v reflect.Value) int) reflect.Value {
	d := reflect.New(v.Type()).Elem()
	switch {
	case v.Kind() == reflect.Struct:
		for k := range v.NumField() {
			d.Field(k).Set(duplicate(v.Field(k), length))
		}
	case v.Kind() == reflect.Slice && !v.IsNil():
		n := length(v)
		d.Set(reflect.MakeSlice(v.Type(), n, n))
		for k := range n {
			d.Index(k).Set(duplicate(v.Slice(0, n).Index(k), length))
		}
	default:
		d.Set(v)
	}
	return d
}

// equal compares outlines, nil and empty being the same.
func equal(a, b contours) bool { return slices.EqualFunc(a, b, slices.Equal[[]api.Point]) }

// equalPictures compares pictures, nil and empty being the same.
func equalPictures(a, b api.Picture) bool {
	return a.Left == b.Left && a.Low == b.Low && a.Map.W == b.Map.W && a.Map.H == b.Map.H && slices.Equal(a.Map.Dots, b.Map.Dots)
}

// picture returns the picture with given rows, the highest one first.
func picture(left, low int, rows ...string) api.Picture {
	p := api.Picture{Left: left, Low: low, Map: api.Bitmap{H: len(rows)}}
	for _, row := range slices.Backward(rows) {
		p.Map.W = len(row)
		for _, c := range row {
			p.Map.Dots = append(p.Map.Dots, c == '#')
		}
	}
	return p
}

// above returns some rows above others.
func above(l ...[]string) []string { return slices.Concat(l...) }

// rows returns a row several times.
func rows(n int, row string) []string { return slices.Repeat([]string{row}, n) }

// brief returns the beginning of the text of a font, for messages.
func brief(f api.Font) string {
	s := fmt.Sprintf("%+v", f)
	if len(s) > 600 {
		return s[:600] + ".."
	}
	return s
}

// extremes are integers far beyond all limits.
var extremes = []int{math.MinInt, math.MinInt + 1, -1 << 32, -10000, 10000, 1 << 32, math.MaxInt - 1, math.MaxInt}

// wrong returns the error that Outline promises.
func wrong(f api.Font, g int, at []int, size int) api.Errno {
	if font.Check(f) != api.OK {
		return api.ErrArg
	}
	if g < 0 || g > len(f.Glyphs)-1 {
		return api.ErrGlyph
	}
	if size < 6 || size > 24 {
		return api.ErrSize
	}
	if len(at) != len(f.Axes) {
		return api.ErrRegion
	}
	for _, n := range at {
		if n < -64 || n > 64 {
			return api.ErrRegion
		}
	}
	return api.OK
}

// nearestDot returns the whole dots nearest to a number of font units, in sixty-fourths of a dot.
func nearestDot(n, size int) int { return 64 * int(math.Floor(float64(n*size)/64+0.5)) }

// moved returns an outline at another place.
func moved(o contours, x, y int) contours {
	return changed(o, func(p api.Point) api.Point { return api.Point{X: p.X + x, Y: p.Y + y, On: p.On} })
}

// scaled returns an outline with its coordinates multiplied.
func scaled(o contours, n int) contours {
	return changed(o, func(p api.Point) api.Point { return api.Point{X: n * p.X, Y: n * p.Y, On: p.On} })
}

func changed(o contours, change func(p api.Point) api.Point) contours {
	var l contours
	for _, c := range o {
		var d []api.Point
		for _, p := range c {
			d = append(d, change(p))
		}
		l = append(l, d)
	}
	return l
}

// made returns the outline that Outline promises, if there is no error.
func made(t *testing.T, f api.Font, g int, at []int, size int) contours {
	t.Helper()
	x := f.Glyphs[g]
	if len(x.Parts) == 0 {
		o, errno := outline.Instance(x.Outline, x.Deltas, at)
		hinted, _, failure := machine.Run(x.Hint, scaled(o, size), size)
		if errno != api.OK || failure != api.OK {
			t.Errorf("the glyph %d of %v at %v, size %d: Instance returns %v, Run returns %v", g, brief(f), at, size, errno, failure)
		}
		return hinted
	}
	var l contours
	for _, p := range x.Parts {
		l = append(l, moved(made(t, f, p.Glyph, at, size), nearestDot(p.X, size), nearestDot(p.Y, size))...)
	}
	return l
}

// checkOutline checks what Outline returns, and that it changes nothing.
func checkOutline(t *testing.T, f api.Font, g int, at []int, size int, want contours, wantErrno api.Errno) {
	t.Helper()
	fontBefore, atBefore := copied(f), slices.Clone(at)
	got, errno := glyph.Outline(f, g, at, size)
	if errno != wantErrno || !equal(got, want) {
		t.Errorf("Outline(%v, %d, %v, %d) = %v, %v; want %v, %v", brief(f), g, at, size, got, errno, want, wantErrno)
	}
	if !reflect.DeepEqual(f, fontBefore) || !slices.Equal(at, atBefore) {
		t.Errorf("Outline(%v, %d, %v, %d) changed its arguments", brief(fontBefore), g, atBefore, size)
	}
}

// checkDraw checks what Draw returns, and that it changes nothing.
func checkDraw(t *testing.T, f api.Font, g int, at []int, size int, want api.Picture, wantErrno api.Errno) {
	t.Helper()
	fontBefore, atBefore := copied(f), slices.Clone(at)
	got, errno := glyph.Draw(f, g, at, size)
	if errno != wantErrno || !equalPictures(got, want) {
		t.Errorf("Draw(%v, %d, %v, %d) = %v, %v; want %v, %v", brief(f), g, at, size, got, errno, want, wantErrno)
	}
	if !reflect.DeepEqual(f, fontBefore) || !slices.Equal(at, atBefore) {
		t.Errorf("Draw(%v, %d, %v, %d) changed its arguments", brief(fontBefore), g, atBefore, size)
	}
}

// checkBoth compares what Outline and Draw return with what they promise, and returns the error of Draw.
func checkBoth(t *testing.T, f api.Font, g int, at []int, size int) api.Errno {
	t.Helper()
	if errno := wrong(f, g, at, size); errno != api.OK {
		checkOutline(t, f, g, at, size, nil, errno)
		checkDraw(t, f, g, at, size, api.Picture{}, errno)
		return errno
	}
	o := made(t, f, g, at, size)
	checkOutline(t, f, g, at, size, o, api.OK)
	p, errno := raster.Dots(outline.Flat(o), 2048)
	checkDraw(t, f, g, at, size, p, errno)
	return errno
}

// checkError checks that Outline and Draw return an error, and nothing else.
func checkError(t *testing.T, f api.Font, g int, at []int, size int, want api.Errno) {
	t.Helper()
	checkOutline(t, f, g, at, size, nil, want)
	checkDraw(t, f, g, at, size, api.Picture{}, want)
	if model := checkBoth(t, f, g, at, size); model != want {
		t.Errorf("the error of the glyph %d of %v at %v, size %d, should be %v, but is %v", g, brief(f), at, size, want, model)
	}
}

// checkUsed checks what Used returns, and that it changes nothing.
func checkUsed(t *testing.T, f api.Font, g int, want ...int) {
	t.Helper()
	before := copied(f)
	if got := glyph.Used(f, g); !slices.Equal(got, want) {
		t.Errorf("Used(%v, %d) = %v, want %v", brief(f), g, got, want)
	}
	if !reflect.DeepEqual(f, before) {
		t.Errorf("Used(%v, %d) changed the font", brief(before), g)
	}
}

// P11.2, P11.3
func TestExamplesOfOutline(t *testing.T) {
	checkOutline(t, example(), 1, []int{0}, 8, rectangle(64, 0, 192, 384), api.OK)
	checkOutline(t, example(), 1, []int{32}, 6, contours{{on(64, 0), on(168, 0), on(168, 288), on(48, 288)}}, api.OK)
	checkOutline(t, example(), 2, []int{0}, 8, slices.Concat(rectangle(64, 0, 192, 384), rectangle(320, 0, 448, 384)), api.OK)
	checkOutline(t, example(), 0, []int{0}, 8, nil, api.OK)
}

// P11.4
func TestExamplesOfDraw(t *testing.T) {
	checkDraw(t, example(), 1, []int{0}, 8, picture(1, 0, above(rows(1, "..."), rows(6, "##."))...), api.OK)
	checkDraw(t, example(), 2, []int{0}, 8, picture(1, 0, above(rows(1, "......."), rows(6, "##..##."))...), api.OK)
	checkDraw(t, example(), 0, []int{0}, 8, api.Picture{}, api.OK)
}

// P11.5
func TestExamplesOfUsed(t *testing.T) {
	checkUsed(t, example(), 2, 1, 2)
	checkUsed(t, example(), 1, 1)
	checkUsed(t, example(), 0, 0)
	checkUsed(t, example(), 3)
}
