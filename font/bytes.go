package font

import (
	"strings"

	"indelible/api"
	"indelible/wire"
)

// Bytes returns the serialization of a font.
func Bytes(f api.Font) string {
	chars := func(c api.Char) []int { return []int{c.Code, c.Glyph} }
	kerns := func(k api.Kern) []int { return []int{k.Left, k.Right, k.By} }
	return wire.Text(f.Name) + wire.Int(f.Version) +
		counted(f.Axes, axisBytes) +
		counted(f.Glyphs, glyphBytes) +
		rows(f.Chars, chars) +
		counted(f.Lookups, lookupBytes) +
		rows(f.Kerns, kerns)
}

func axisBytes(a api.Axis) string {
	return wire.Text(a.Tag) + wire.Ints([]int{a.Low, a.Usual, a.High})
}

func glyphBytes(g api.Glyph) string {
	parts := func(p api.Part) []int { return []int{p.Glyph, p.X, p.Y} }
	ops := func(op api.Op) []int { return []int{op.Code, op.N, op.M} }
	return wire.Text(g.Name) + wire.Int(g.Advance) +
		counted(g.Outline, contourBytes) +
		counted(g.Deltas, deltaBytes) +
		rows(g.Parts, parts) +
		rows(g.Hint, ops) +
		wire.Ints(g.Alts)
}

func contourBytes(c []api.Point) string {
	return rows(c, func(p api.Point) []int {
		if p.On {
			return []int{p.X, p.Y, 1}
		}
		return []int{p.X, p.Y, 0}
	})
}

func deltaBytes(d api.Delta) string {
	tents := func(t api.Tent) []int { return []int{t.Low, t.Peak, t.High} }
	moves := func(v api.Move) []int { return []int{v.X, v.Y} }
	return rows(d.Region, tents) + rows(d.Moves, moves)
}

func lookupBytes(l api.Lookup) string { return counted(l.Subs, subBytes) }

func subBytes(s api.Sub) string {
	return wire.Ints(s.Before) + wire.Ints(s.From) + wire.Ints(s.After) + wire.Int(s.To)
}

// counted returns the serialization of the number of elements, and then that of each of them by bytes.
func counted[T any](l []T, bytes func(x T) string) string {
	s := []string{wire.Int(len(l))}
	for _, x := range l {
		s = append(s, bytes(x))
	}
	return strings.Join(s, "")
}

// rows returns the serialization of one list with the numbers of all elements.
func rows[T any](l []T, numbers func(x T) []int) string {
	var all []int
	for _, x := range l {
		all = append(all, numbers(x)...)
	}
	return wire.Ints(all)
}
