package bitmap_test

import (
	"math/rand/v2"
	"slices"
	"testing"

	"indelible/api"
	"indelible/bitmap"
)

// P4.9
func TestPasteHasAtMostTheDotsOfBoth(t *testing.T) {
	r := rand.New(rand.NewPCG(45, 4))
	for _, b := range wellFormed() {
		for _, c := range wellFormed() {
			x, y := position(r), position(r)
			if got := bitmap.Count(bitmap.Paste(b, c, x, y)); got > bitmap.Count(b)+bitmap.Count(c) || got < bitmap.Count(b) {
				t.Errorf("Paste of %v and %v at %d, %d has %d dots", short(b), short(c), x, y, got)
			}
		}
	}
}

// P4.9: a shift after another one.
func TestOnlyOfTwoShifts(t *testing.T) {
	r := rand.New(rand.NewPCG(46, 4))
	bitmaps := all()
	for range 20000 {
		a, b, c := bitmaps[r.IntN(len(bitmaps))], bitmaps[r.IntN(len(bitmaps))], bitmaps[r.IntN(len(bitmaps))]
		dx, dy, ex, ey := r.IntN(7)-3, r.IntN(7)-3, r.IntN(7)-3, r.IntN(7)-3
		both := bitmap.Only(a, b, dx, dy, 0, 0) + bitmap.Only(b, c, ex, ey, 0, 0)
		if got := bitmap.Only(a, c, dx+ex, dy+ey, 0, 0); got > both {
			t.Errorf("Only of %v and %v is %d; by way of %v, shifted by %d, %d and %d, %d, it is %d", short(a), short(c), got, short(b), dx, dy, ex, ey, both)
		}
	}
}

// P4.9: at the opposite shift, both have the same dots in common.
func TestOnlyOfTheOppositeShift(t *testing.T) {
	r := rand.New(rand.NewPCG(47, 4))
	for _, a := range all() {
		for _, b := range all() {
			dx, dy := r.IntN(9)-4, r.IntN(9)-4
			common := bitmap.Count(a) - bitmap.Only(a, b, dx, dy, 0, 0)
			if got := bitmap.Count(b) - bitmap.Only(b, a, -dx, -dy, 0, 0); got != common {
				t.Errorf("%v has %d dots of %v at %d, %d; that has %d of it", short(b), common, short(a), dx, dy, got)
			}
		}
	}
}

// roomy returns a copy of a bitmap with room for more dots.
func roomy(b api.Bitmap) api.Bitmap {
	dots := append(make([]bool, 0, len(b.Dots)+50), b.Dots...)
	for k := range dots[len(dots):cap(dots)] {
		dots[:cap(dots)][len(dots)+k] = true
	}
	b.Dots = dots
	return b
}

// everything calls every function, and returns the bitmaps and all other results.
func everything(a, b api.Bitmap, x, y, from, till int) ([]api.Bitmap, []any) {
	part, errno := bitmap.Crop(a, x, y, 5, 4)
	whole, wholeErrno := bitmap.Crop(a, 0, 0, a.W, a.H)
	blank, blankErrno := bitmap.New(x, y)
	parsed, ok := bitmap.Parse(bitmap.Text(a))
	return []api.Bitmap{bitmap.Paste(a, b, x, y), bitmap.Paste(a, a, 0, 0), part, whole, blank, parsed},
		[]any{errno, wholeErrno, blankErrno, ok, bitmap.Check(a), bitmap.Count(a), bitmap.Get(a, x, y), bitmap.Text(a), bitmap.Same(a, b), bitmap.Only(a, b, x, y, from, till)}
}

// R3, R4, P1: arguments stay as they are, even behind their ends; results have memory of their own, and come again.
func TestArgumentsAndResults(t *testing.T) {
	r := rand.New(rand.NewPCG(48, 4))
	for _, a := range all() {
		for _, b := range all() {
			a, b := roomy(a), roomy(b)
			keptA, keptB := slices.Clone(a.Dots[:cap(a.Dots)]), slices.Clone(b.Dots[:cap(b.Dots)])
			x, y, from, till := position(r), position(r), position(r), position(r)
			bitmaps, others := everything(a, b, x, y, from, till)
			for _, c := range bitmaps {
				grown := c.Dots[:cap(c.Dots)]
				for k := range grown {
					grown[k] = !grown[k]
				}
			}
			if !slices.Equal(a.Dots[:cap(a.Dots)], keptA) || !slices.Equal(b.Dots[:cap(b.Dots)], keptB) {
				t.Fatalf("the dots of %v or of %v were changed", short(a), short(b))
			}
			again, othersAgain := everything(a, b, x, y, from, till)
			for _, c := range bitmaps {
				for k := range c.Dots {
					c.Dots[k] = !c.Dots[k]
				}
			}
			if !slices.EqualFunc(bitmaps, again, equal) || !slices.Equal(others, othersAgain) {
				t.Fatalf("calls with %v, %v, %d, %d, %d and %d do not return the same again", short(a), short(b), x, y, from, till)
			}
		}
	}
}

// R1: nil and empty dots are equivalent.
func TestNilDots(t *testing.T) {
	for _, size := range [][2]int{{0, 0}, {0, 3}, {3, 0}, {1, 1}, {97, 0}} {
		a := api.Bitmap{W: size[0], H: size[1]}
		b := api.Bitmap{W: size[0], H: size[1], Dots: []bool{}}
		if !bitmap.Same(a, b) || !bitmap.Same(b, a) {
			t.Errorf("nil and empty dots are not the same in %v", a)
		}
		bitmapsA, othersA := everything(a, rows("##"), 0, 0, 0, 0)
		bitmapsB, othersB := everything(b, rows("##"), 0, 0, 0, 0)
		if !slices.EqualFunc(bitmapsA, bitmapsB, equal) || !slices.Equal(othersA, othersB) {
			t.Errorf("nil and empty dots differ in %v", a)
		}
	}
}

// BenchmarkOnly compares two large bitmaps.
func BenchmarkOnly(b *testing.B) {
	r := rand.New(rand.NewPCG(49, 4))
	first, second := random(r, 96, 96, 3), random(r, 96, 96, 3)
	for b.Loop() {
		bitmap.Only(first, second, 1, 1, 10, 20)
	}
}
