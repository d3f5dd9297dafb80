package bitmap_test

import (
	"strings"
	"testing"

	"indelible/api"
	"indelible/bitmap"
)

// written returns what Text promises.
func written(b api.Bitmap) string {
	if !good(b) {
		return ""
	}
	s := ""
	for y := range b.H {
		row := ""
		for x := range b.W {
			row += map[bool]string{true: "#", false: "."}[b.Dots[y*b.W+x]]
		}
		s = row + "\n" + s
	}
	return s
}

// P4.7
func TestText(t *testing.T) {
	for _, b := range all() {
		if got := bitmap.Text(b); got != written(b) {
			t.Errorf("Text(%v) = %q; want %q", short(b), got, written(b))
		}
	}
	for b, want := range map[*api.Bitmap]string{
		{}:     "",
		{H: 3}: "\n\n\n",
		{W: 3}: "",
		{W: 3, H: 2, Dots: []bool{false, true, true, true, false, true}}: "#.#\n.##\n",
		{W: 3, H: 2, Dots: []bool{false, true, true, true, false}}:       "",
		{W: -1, H: -1, Dots: []bool{true}}:                               "",
	} {
		if got := bitmap.Text(*b); got != want {
			t.Errorf("Text(%v) = %q; want %q", *b, got, want)
		}
	}
}

// P4.7
func TestExamplesOfParse(t *testing.T) {
	if b, ok := bitmap.Parse("#.\n.#\n"); !equal(b, api.Bitmap{W: 2, H: 2, Dots: []bool{false, true, true, false}}) || !ok {
		t.Errorf("Parse of two rows = %v, %v", b, ok)
	}
	for _, s := range []string{"#.\n#\n", "#", "\n", "", "\n\n", "#.\n#.", "#.\n#.\n\n", "\n#.\n", "#.\n#.#\n", "#.\n#x\n", "#.\r\n", " #\n", "#.\n\n#.\n", "#\x00\n", "Ü\n"} {
		if b, ok := bitmap.Parse(s); !equal(b, api.Bitmap{}) || ok {
			t.Errorf("Parse(%q) = %v, %v", s, b, ok)
		}
	}
}

// everySmall calls do with each bitmap of at least one dot, the text of which has at most n bytes.
func everySmall(n int, do func(b api.Bitmap)) {
	for w := 1; w < n; w++ {
		for h := 1; h*(w+1) <= n; h++ {
			for bits := range 1 << (w * h) {
				b := api.Bitmap{W: w, H: h, Dots: make([]bool, w*h)}
				for k := range b.Dots {
					b.Dots[k] = bits>>k&1 == 1
				}
				do(b)
			}
		}
	}
}

// everyText calls do with each string of at most n bytes of some kinds, after a beginning.
func everyText(n int, begin string, do func(s string)) {
	do(begin)
	if n == 0 {
		return
	}
	for _, c := range "#.\nx" {
		everyText(n-1, begin+string(c), do)
	}
}

// P4.7: of all short strings, those are parsed that are the text of a bitmap.
func TestParseInvertsText(t *testing.T) {
	const most = 8
	known := map[string]api.Bitmap{}
	everySmall(most, func(b api.Bitmap) { known[written(b)] = b })
	everyText(most, "", func(s string) {
		want, wantOK := known[s]
		if got, ok := bitmap.Parse(s); !equal(got, want) || ok != wantOK {
			t.Errorf("Parse(%q) = %v, %v; want %v, %v", s, got, ok, want, wantOK)
		}
	})
	for _, b := range wellFormed() {
		want, wantOK := b, b.W > 0 && b.H > 0
		if !wantOK {
			want = api.Bitmap{}
		}
		if got, ok := bitmap.Parse(written(b)); !equal(got, want) || ok != wantOK {
			t.Errorf("Parse of the text of %v = %v, %v", short(b), short(got), ok)
		}
	}
}

// P4.7: sizes at and beyond the limit.
func TestParseOfManyDots(t *testing.T) {
	for _, w := range []int{1, 2, 95, 96, 97, 98, 1000} {
		for _, h := range []int{1, 2, 95, 96, 97, 98, 1000} {
			row := strings.Repeat("#.", w)[:w] + "\n"
			s := strings.Repeat(row, h)
			b, ok := bitmap.Parse(s)
			if w > 96 || h > 96 {
				if ok || !equal(b, api.Bitmap{}) {
					t.Errorf("Parse of %d by %d dots = %v, %v", w, h, short(b), ok)
				}
				continue
			}
			if !ok || b.W != w || b.H != h || written(b) != s {
				t.Errorf("Parse of %d by %d dots = %v, %v", w, h, short(b), ok)
			}
			if _, ok := bitmap.Parse(s[:len(s)-1]); ok {
				t.Errorf("Parse of %d by %d dots without an end succeeds", w, h)
			}
			if _, ok := bitmap.Parse(s + row[:1]); ok {
				t.Errorf("Parse of %d by %d dots and one more byte succeeds", w, h)
			}
		}
	}
}
