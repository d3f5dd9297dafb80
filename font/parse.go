package font

import (
	"indelible/api"
	"indelible/wire"
)

// Parse returns the font with a given serialization. It reads what may be one, and then compares the serializations: no font has two of them.
func Parse(s string) (api.Font, bool) {
	f := readFont(wire.New(s))
	if Check(f) != api.OK || Bytes(f) != s {
		return api.Font{}, false
	}
	return f, true
}

// readFont reads a font. What is malformed is read, too, but the serialization of what comes out is another one.
func readFont(r *wire.Reader) api.Font {
	return api.Font{
		Name:    r.Text(),
		Version: r.Int(),
		Axes:    read(r, readAxis),
		Glyphs:  read(r, readGlyph),
		Chars:   apart(r.Ints(), 2, func(n []int) api.Char { return api.Char{Code: n[0], Glyph: n[1]} }),
		Lookups: read(r, readLookup),
		Kerns:   apart(r.Ints(), 3, func(n []int) api.Kern { return api.Kern{Left: n[0], Right: n[1], By: n[2]} }),
	}
}

func readAxis(r *wire.Reader) api.Axis {
	tag := r.Text()
	var n [3]int
	copy(n[:], r.Ints())
	return api.Axis{Tag: tag, Low: n[0], Usual: n[1], High: n[2]}
}

func readGlyph(r *wire.Reader) api.Glyph {
	return api.Glyph{
		Name:    r.Text(),
		Advance: r.Int(),
		Outline: read(r, readContour),
		Deltas:  read(r, readDelta),
		Parts:   apart(r.Ints(), 3, func(n []int) api.Part { return api.Part{Glyph: n[0], X: n[1], Y: n[2]} }),
		Hint:    apart(r.Ints(), 3, func(n []int) api.Op { return api.Op{Code: n[0], N: n[1], M: n[2]} }),
		Alts:    r.Ints(),
	}
}

func readContour(r *wire.Reader) []api.Point {
	return apart(r.Ints(), 3, func(n []int) api.Point { return api.Point{X: n[0], Y: n[1], On: n[2] == 1} })
}

func readDelta(r *wire.Reader) api.Delta {
	return api.Delta{
		Region: apart(r.Ints(), 3, func(n []int) api.Tent { return api.Tent{Low: n[0], Peak: n[1], High: n[2]} }),
		Moves:  apart(r.Ints(), 2, func(n []int) api.Move { return api.Move{X: n[0], Y: n[1]} }),
	}
}

func readLookup(r *wire.Reader) api.Lookup { return api.Lookup{Subs: read(r, readSub)} }

func readSub(r *wire.Reader) api.Sub {
	return api.Sub{Before: r.Ints(), From: r.Ints(), After: r.Ints(), To: r.Int()}
}

// read reads a number, and then as many elements, but none after the reader has become bad.
func read[T any](r *wire.Reader, element func(r *wire.Reader) T) []T {
	var l []T
	for range r.Int() {
		if r.Bad() {
			break
		}
		l = append(l, element(r))
	}
	return l
}

// apart takes a list of numbers apart: each element is made of so many of them. Numbers at the end that make no element are left out.
func apart[T any](l []int, each int, element func(n []int) T) []T {
	var all []T
	for ; len(l) >= each; l = l[each:] {
		all = append(all, element(l[:each]))
	}
	return all
}
