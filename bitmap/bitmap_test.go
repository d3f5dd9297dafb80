package bitmap_test

import (
	"math"
	"math/big"
	"math/rand/v2"
	"slices"
	"testing"

	"indelible/api"
	"indelible/bitmap"
)

// rows returns the bitmap with given rows, the highest one first.
func rows(l ...string) api.Bitmap {
	b := api.Bitmap{H: len(l)}
	for k := len(l) - 1; k >= 0; k-- {
		b.W = len(l[k])
		for _, c := range l[k] {
			b.Dots = append(b.Dots, c == '#')
		}
	}
	return b
}

// random returns a bitmap of w by h dots, about one of n of which it has.
func random(r *rand.Rand, w, h, n int) api.Bitmap {
	b := api.Bitmap{W: w, H: h, Dots: make([]bool, w*h)}
	for k := range b.Dots {
		b.Dots[k] = r.IntN(n) == 0
	}
	return b
}

// malformed returns bitmaps with dots that are not well-formed.
func malformed() []api.Bitmap {
	return []api.Bitmap{
		{W: 2, H: 2, Dots: []bool{true, true, true}},
		{W: 2, H: 2, Dots: []bool{true, true, true, true, true}},
		{W: 2, H: 2},
		{W: 0, H: 0, Dots: []bool{true}},
		{W: 0, H: 3, Dots: []bool{true, true, true}},
		{W: -1, H: -1, Dots: []bool{true}},
		{W: -2, H: 2, Dots: []bool{true, true, true, true}},
		{W: 2, H: -2, Dots: []bool{true, true, true, true}},
		{W: 97, H: 1, Dots: slices.Repeat([]bool{true}, 97)},
		{W: 1, H: 97, Dots: slices.Repeat([]bool{true}, 97)},
		{W: 97, H: 0},
		{W: 0, H: 97},
		{W: math.MaxInt, H: 1, Dots: []bool{true}},
		{W: math.MinInt, H: math.MinInt, Dots: []bool{true}},
		{W: math.MaxInt, H: math.MaxInt, Dots: []bool{true}},
	}
}

// wellFormed returns bitmaps of many sizes, with few, many, all, and no dots.
func wellFormed() []api.Bitmap {
	r := rand.New(rand.NewPCG(41, 4))
	l := []api.Bitmap{{}, {W: 3}, {H: 3}, {W: 96}, {H: 96}, rows("#.#", ".##"), rows("##"), rows("#"), rows(".")}
	for w := 1; w <= 5; w++ {
		for h := 1; h <= 4; h++ {
			l = append(l, random(r, w, h, 2), random(r, w, h, 5), random(r, w, h, 1))
		}
	}
	return append(l, random(r, 96, 1, 3), random(r, 1, 96, 3), random(r, 20, 9, 4))
}

func all() []api.Bitmap { return append(wellFormed(), malformed()...) }

// equal reports whether two bitmaps are equal, nil and empty being the same.
func equal(a, b api.Bitmap) bool {
	return a.W == b.W && a.H == b.H && slices.Equal(a.Dots, b.Dots)
}

// short returns what a message says of a bitmap.
func short(b api.Bitmap) api.Bitmap {
	b.Dots = b.Dots[:min(20, len(b.Dots))]
	return b
}

// good reports whether a bitmap is well-formed.
func good(b api.Bitmap) bool {
	return b.W >= 0 && b.W <= 96 && b.H >= 0 && b.H <= 96 && b.W*b.H == len(b.Dots)
}

// has reports whether a bitmap has the dot at a position without bounds.
func has(b api.Bitmap, x, y *big.Int) bool {
	if !good(b) || x.Sign() < 0 || y.Sign() < 0 || x.Cmp(whole(b.W)) >= 0 || y.Cmp(whole(b.H)) >= 0 {
		return false
	}
	return b.Dots[y.Int64()*int64(b.W)+x.Int64()]
}

func whole(n int) *big.Int { return big.NewInt(int64(n)) }

func sum(a, b int) *big.Int { return new(big.Int).Add(whole(a), whole(b)) }

func difference(a, b int) *big.Int { return new(big.Int).Sub(whole(a), whole(b)) }

// positions returns coordinates in small bitmaps, around them, and at the bounds of integers.
func positions() []int {
	return []int{math.MinInt, math.MinInt + 1, math.MinInt + 95, math.MinInt / 2, -97, -96, -95, -4, -3, -2, -1, 0, 1, 2, 3, 4, 5, 95, 96, 97,
		1 << 32, -1 << 32, math.MaxInt / 2, math.MaxInt - 95, math.MaxInt - 2, math.MaxInt - 1, math.MaxInt}
}

// P4.1
func TestExamplesOfCheck(t *testing.T) {
	for _, c := range []struct {
		b    api.Bitmap
		want api.Errno
	}{
		{api.Bitmap{W: 2, H: 2, Dots: []bool{true, false, true}}, api.ErrForm},
		{api.Bitmap{W: 97, H: 0}, api.ErrSize},
		{api.Bitmap{W: -1, H: 0}, api.ErrSize},
		{api.Bitmap{}, api.OK},
		{api.Bitmap{Dots: []bool{}}, api.OK},
	} {
		if got := bitmap.Check(c.b); got != c.want {
			t.Errorf("Check(%v) = %v; want %v", c.b, got, c.want)
		}
	}
}

// P4.1: sizes at and beyond the limits, each with too few, enough and too many dots.
func TestCheck(t *testing.T) {
	sides := []int{math.MinInt, -97, -96, -2, -1, 0, 1, 2, 3, 50, 95, 96, 97, 98, 1 << 32, math.MaxInt}
	for _, w := range sides {
		for _, h := range sides {
			fits := w >= 0 && w <= 96 && h >= 0 && h <= 96
			for _, n := range []int{0, 1, 2, 3, 4, w*h - 1, w * h, w*h + 1} {
				if n < 0 || n > 96*96+1 {
					continue
				}
				want := api.OK
				if !fits {
					want = api.ErrSize
				} else if n != w*h {
					want = api.ErrForm
				}
				if got := bitmap.Check(api.Bitmap{W: w, H: h, Dots: make([]bool, n)}); got != want {
					t.Errorf("Check of %d by %d with %d dots = %v; want %v", w, h, n, got, want)
				}
			}
		}
	}
}

// P4.2
func TestNew(t *testing.T) {
	sides := []int{math.MinInt, -97, -2, -1, 97, 98, 1 << 32, math.MaxInt}
	for n := range 97 {
		sides = append(sides, n)
	}
	for _, w := range sides {
		for _, h := range sides {
			want, wantErrno := api.Bitmap{}, api.ErrSize
			if w >= 0 && w <= 96 && h >= 0 && h <= 96 {
				want, wantErrno = api.Bitmap{W: w, H: h, Dots: make([]bool, w*h)}, api.OK
			}
			if b, errno := bitmap.New(w, h); !equal(b, want) || errno != wantErrno {
				t.Errorf("New(%d, %d) = %v, %v", w, h, short(b), errno)
			}
		}
	}
}

// P4.3
func TestExamplesOfGetAndCount(t *testing.T) {
	a := rows("#.#", ".##")
	for _, c := range []struct {
		x, y int
		want bool
	}{{0, 1, true}, {0, 0, false}, {3, 0, false}, {-1, 0, false}, {0, 2, false}, {0, -1, false}, {1, 0, true}, {2, 0, true}, {1, 1, false}, {2, 1, true}, {3, -1, false}, {-1, 1, false}} {
		if got := bitmap.Get(a, c.x, c.y); got != c.want {
			t.Errorf("Get(a, %d, %d) = %v", c.x, c.y, got)
		}
	}
	if got := bitmap.Count(a); got != 4 {
		t.Errorf("Count(a) = %d", got)
	}
}

// P4.3
func TestGetAndCount(t *testing.T) {
	for _, b := range all() {
		n := 0
		for y := range max(0, min(b.H, 100)) {
			for x := range max(0, min(b.W, 100)) {
				if has(b, whole(x), whole(y)) {
					n++
				}
				if got := bitmap.Get(b, x, y); got != has(b, whole(x), whole(y)) {
					t.Errorf("Get(%v, %d, %d) = %v", short(b), x, y, got)
				}
			}
		}
		if got := bitmap.Count(b); got != n {
			t.Errorf("Count(%v) = %d; want %d", short(b), got, n)
		}
		for _, x := range positions() {
			for _, y := range positions() {
				if got := bitmap.Get(b, x, y); got != has(b, whole(x), whole(y)) {
					t.Errorf("Get(%v, %d, %d) = %v", short(b), x, y, got)
				}
			}
		}
	}
}

// P4.4
func TestExamplesOfPaste(t *testing.T) {
	a, b := rows("#.#", ".##"), rows("##")
	if got := bitmap.Paste(a, b, 0, 0); !equal(got, rows("#.#", "###")) {
		t.Errorf("Paste(a, b, 0, 0) = %v", got)
	}
	if got := bitmap.Paste(a, b, 2, 1); !equal(got, a) {
		t.Errorf("Paste(a, b, 2, 1) = %v", got)
	}
	if got := bitmap.Paste(api.Bitmap{W: 3, H: 2}, b, 0, 0); !equal(got, api.Bitmap{}) {
		t.Errorf("Paste of what is not well-formed = %v", got)
	}
	if got := bitmap.Paste(a, api.Bitmap{W: 1, H: 1, Dots: []bool{true, true}}, 0, 0); !equal(got, a) {
		t.Errorf("Paste of a and what is not well-formed = %v", got)
	}
}

// pasted returns what Paste promises.
func pasted(b, c api.Bitmap, x, y int) api.Bitmap {
	if !good(b) {
		return api.Bitmap{}
	}
	want := api.Bitmap{W: b.W, H: b.H}
	for v := range b.H {
		for u := range b.W {
			want.Dots = append(want.Dots, has(b, whole(u), whole(v)) || has(c, difference(u, x), difference(v, y)))
		}
	}
	return want
}

// cut returns what Crop promises.
func cut(b api.Bitmap, x, y, w, h int) (api.Bitmap, api.Errno) {
	if errno := bitmap.Check(b); errno != api.OK {
		return api.Bitmap{}, errno
	}
	if w < 0 || w > 96 || h < 0 || h > 96 {
		return api.Bitmap{}, api.ErrSize
	}
	want := api.Bitmap{W: w, H: h}
	for j := range h {
		for i := range w {
			want.Dots = append(want.Dots, has(b, sum(x, i), sum(y, j)))
		}
	}
	return want, api.OK
}

// only returns what Only promises.
func only(a, b api.Bitmap, dx, dy, from, till int) int {
	n := 0
	for k := range a.Dots {
		if !good(a) || !a.Dots[k] {
			continue
		}
		x, y := k%a.W, k/a.W
		if (x < from || x >= till) && !has(b, difference(x, dx), difference(y, dy)) {
			n++
		}
	}
	return n
}

// P4.4
func TestPaste(t *testing.T) {
	r := rand.New(rand.NewPCG(42, 4))
	bitmaps := all()
	for _, b := range bitmaps {
		for _, c := range bitmaps {
			for range 10 {
				x, y := position(r), position(r)
				if got := bitmap.Paste(b, c, x, y); !equal(got, pasted(b, c, x, y)) {
					t.Fatalf("Paste(%v, %v, %d, %d) = %v", short(b), short(c), x, y, short(got))
				}
			}
		}
	}
}

// position returns a coordinate: often one of a small bitmap.
func position(r *rand.Rand) int {
	if r.IntN(3) == 0 {
		l := positions()
		return l[r.IntN(len(l))]
	}
	return r.IntN(9) - 4
}

// P4.4, P4.5, P4.6: a bitmap that lies far outside has nothing in common, even where a position wraps around.
func TestPositionsHaveNoBounds(t *testing.T) {
	full := rows("####", "####", "####", "####")
	blank := rows("....", "....", "....", "....")
	for _, x := range positions() {
		for _, y := range positions() {
			if got := bitmap.Paste(blank, full, x, y); !equal(got, pasted(blank, full, x, y)) {
				t.Errorf("Paste at %d, %d = %v", x, y, got)
			}
			if got, errno := bitmap.Crop(full, x, y, 4, 4); errno != api.OK || bitmap.Count(got) != 16-only(full, full, x, y, 0, 0) {
				t.Errorf("Crop at %d, %d = %v, %v", x, y, got, errno)
			}
			if got := bitmap.Only(full, full, x, y, 0, 0); got != only(full, full, x, y, 0, 0) {
				t.Errorf("Only with %d, %d = %d", x, y, got)
			}
		}
	}
}

// P4.5
func TestExamplesOfCrop(t *testing.T) {
	a := rows("#.#", ".##")
	if got, errno := bitmap.Crop(a, 1, -1, 3, 2); !equal(got, rows("##.", "...")) || errno != api.OK {
		t.Errorf("Crop(a, 1, -1, 3, 2) = %v, %v", got, errno)
	}
	if got, errno := bitmap.Crop(a, 0, 0, 97, 1); !equal(got, api.Bitmap{}) || errno != api.ErrSize {
		t.Errorf("Crop(a, 0, 0, 97, 1) = %v, %v", got, errno)
	}
	a.Dots = a.Dots[1:]
	if got, errno := bitmap.Crop(a, 0, 0, 97, 1); !equal(got, api.Bitmap{}) || errno != api.ErrForm {
		t.Errorf("Crop of too few dots = %v, %v", got, errno)
	}
}

// P4.5: R2 puts the error of Check first.
func TestCrop(t *testing.T) {
	r := rand.New(rand.NewPCG(43, 4))
	sides := []int{0, 1, 2, 3, 4, 5, 7, 30, 95, 96, 97, -1, -2, math.MaxInt, math.MinInt}
	for _, b := range all() {
		for range 100 {
			x, y, w, h := position(r), position(r), sides[r.IntN(len(sides))], sides[r.IntN(len(sides))]
			want, wantErrno := cut(b, x, y, w, h)
			if got, errno := bitmap.Crop(b, x, y, w, h); !equal(got, want) || errno != wantErrno {
				t.Fatalf("Crop(%v, %d, %d, %d, %d) = %v, %v; want %v, %v", short(b), x, y, w, h, short(got), errno, short(want), wantErrno)
			}
		}
	}
}

// P4.6
func TestExamplesOfOnly(t *testing.T) {
	a, b := rows("#.#", ".##"), rows("##")
	for _, c := range []struct {
		a, b             api.Bitmap
		dx, dy, from, to int
		want             int
	}{
		{a, b, 0, 0, 0, 0, 3},
		{a, b, 1, 0, 0, 0, 2},
		{a, b, 1, 0, 0, 1, 1},
		{b, a, 0, 0, 0, 0, 1},
		{a, b, 0, 1, 0, 0, 3},
		{a, b, 1, 0, 2, 0, 2},
		{a, b, 1, 0, 3, 1, 2},
		{a, b, 1, 0, 2, 3, 1},
		{a, b, 1, 0, 0, 3, 0},
		{a, b, 1, 0, math.MinInt, math.MaxInt, 0},
		{a, b, 1, 0, math.MaxInt, math.MinInt, 2},
		{a, api.Bitmap{W: 1, H: 1}, 0, 0, 0, 0, 4},
		{api.Bitmap{W: 1, H: 1, Dots: []bool{true, true}}, b, 0, 0, 0, 0, 0},
	} {
		if got := bitmap.Only(c.a, c.b, c.dx, c.dy, c.from, c.to); got != c.want {
			t.Errorf("Only(%v, %v, %d, %d, %d, %d) = %d; want %d", c.a, c.b, c.dx, c.dy, c.from, c.to, got, c.want)
		}
	}
}

// P4.6
func TestOnly(t *testing.T) {
	r := rand.New(rand.NewPCG(44, 4))
	bitmaps := all()
	for _, a := range bitmaps {
		for _, b := range bitmaps {
			for range 20 {
				dx, dy, from, till := position(r), position(r), position(r), position(r)
				if got, want := bitmap.Only(a, b, dx, dy, from, till), only(a, b, dx, dy, from, till); got != want {
					t.Fatalf("Only(%v, %v, %d, %d, %d, %d) = %d; want %d", short(a), short(b), dx, dy, from, till, got, want)
				}
			}
		}
	}
}

// P4.8
func TestSame(t *testing.T) {
	bitmaps := all()
	for k, a := range bitmaps {
		for _, b := range bitmaps {
			if got := bitmap.Same(a, b); got != equal(a, b) {
				t.Errorf("Same(%v, %v) = %v", short(a), short(b), got)
			}
		}
		b := api.Bitmap{W: a.W, H: a.H, Dots: slices.Clone(a.Dots)}
		if !bitmap.Same(a, b) {
			t.Errorf("bitmap %d is not the same as its copy", k)
		}
		for i := range b.Dots {
			b.Dots[i] = !b.Dots[i]
			if bitmap.Same(a, b) || bitmap.Same(b, a) {
				t.Errorf("bitmap %d is the same with the dot %d changed", k, i)
			}
			b.Dots[i] = !b.Dots[i]
		}
	}
}

// P4.8: W and H count, and so does each element, even if a bitmap is not well-formed.
func TestSameTellsSizesApart(t *testing.T) {
	for _, c := range []struct {
		a, b api.Bitmap
		want bool
	}{
		{api.Bitmap{}, api.Bitmap{Dots: []bool{}}, true},
		{api.Bitmap{W: 2}, api.Bitmap{H: 2}, false},
		{api.Bitmap{W: 2}, api.Bitmap{W: 3}, false},
		{api.Bitmap{H: 2}, api.Bitmap{H: 3}, false},
		{rows("#.#."), rows("#.", "#."), false},
		{api.Bitmap{W: 1, H: 1}, api.Bitmap{W: 1, H: 1}, true},
		{api.Bitmap{W: 1, H: 1}, rows("."), false},
		{api.Bitmap{W: -1, H: 1, Dots: []bool{true}}, api.Bitmap{W: -1, H: 1, Dots: []bool{true}}, true},
		{api.Bitmap{W: -1, H: 1, Dots: []bool{true}}, api.Bitmap{W: -1, H: 1, Dots: []bool{true, false}}, false},
		{api.Bitmap{W: 1, H: 1, Dots: []bool{true, true}}, api.Bitmap{W: 1, H: 1, Dots: []bool{true, false}}, false},
	} {
		if got := bitmap.Same(c.a, c.b); got != c.want {
			t.Errorf("Same(%v, %v) = %v", c.a, c.b, got)
		}
		if got := bitmap.Same(c.b, c.a); got != c.want {
			t.Errorf("Same(%v, %v) = %v", c.b, c.a, got)
		}
	}
}
