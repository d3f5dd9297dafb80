package font_test

import (
	"fmt"
	"math"
	"reflect"
	"slices"
	"strings"
	"testing"

	"indelible/api"
	"indelible/font"
)

func checkFind(t *testing.T, f api.Font, name string, want int) {
	t.Helper()
	if got := font.Find(f, name); got != want {
		t.Errorf("Find(%v, %q) = %d, want %d", brief(f), name, got, want)
	}
}

// P10.2
func TestFind(t *testing.T) {
	checkFind(t, example(), "a", 1)
	checkFind(t, example(), "b", -1)
	checkFind(t, example(), "blank", 0)
	checkFind(t, example(), "sans", -1)
	for _, f := range []api.Font{{}, example(), whole(), largest()} {
		for i, g := range f.Glyphs {
			checkFind(t, f, g.Name, i)
			checkFind(t, f, g.Name+"a", -1)
			checkFind(t, f, g.Name[1:], -1)
			checkFind(t, f, strings.ToUpper(g.Name)+"-", -1)
		}
		for _, name := range []string{"", "A", "\xff", strings.Repeat("a", 1<<16)} {
			checkFind(t, f, name, -1)
		}
	}
}

// P10.2: fonts that are not valid.
func TestFindOfAnyFont(t *testing.T) {
	f := api.Font{Glyphs: glyphs(5)}
	for i, name := range []string{"b", "a", "", "b", ""} {
		f.Glyphs[i].Name = name
	}
	checkFind(t, f, "b", 0)
	checkFind(t, f, "a", 1)
	checkFind(t, f, "", 2)
	checkFind(t, f, "c", -1)
	f.Glyphs[4].Name = "Ä\xff"
	checkFind(t, f, "Ä\xff", 4)
	checkFind(t, f, "Ä", -1)
	checkFind(t, api.Font{Glyphs: glyphs(1000)}, "g999", 999)
	checkFind(t, api.Font{Glyphs: make([]api.Glyph, 3)}, "", 0)
	checkFind(t, api.Font{Glyphs: []api.Glyph{}}, "", -1)
}

func checkOf(t *testing.T, f api.Font, code, want int) {
	t.Helper()
	if got := font.Of(f, code); got != want {
		t.Errorf("Of(%v, %d) = %d, want %d", brief(f), code, got, want)
	}
}

// P10.2
func TestOf(t *testing.T) {
	checkOf(t, example(), 97, 1)
	checkOf(t, example(), 98, -1)
	for _, f := range []api.Font{{}, example(), whole(), largest()} {
		want := map[int]int{}
		for _, c := range f.Chars {
			want[c.Code] = c.Glyph
		}
		for code := -300; code < 600; code++ {
			g, ok := want[code]
			if !ok {
				g = -1
			}
			checkOf(t, f, code, g)
		}
		for _, code := range extremes {
			checkOf(t, f, code, -1)
		}
	}
}

// P10.2: fonts that are not valid.
func TestOfInAnyFont(t *testing.T) {
	f := api.Font{Chars: []api.Char{{Code: 98, Glyph: 7}, {Code: 97, Glyph: -5}, {Code: 98, Glyph: 8}, {Code: -1, Glyph: 9}, {Code: math.MaxInt, Glyph: math.MinInt}, {Code: 0, Glyph: 3}, {Code: -1}}}
	checkOf(t, f, 98, 7)
	checkOf(t, f, 97, -5)
	checkOf(t, f, -1, 9)
	checkOf(t, f, 0, 3)
	checkOf(t, f, math.MaxInt, math.MinInt)
	checkOf(t, f, 99, -1)
	checkOf(t, f, 98+256, -1)
	checkOf(t, api.Font{Chars: slices.Repeat(f.Chars, 100)}, 0, 3)
}

func checkSame(t *testing.T, a, b api.Font, want bool) {
	t.Helper()
	if font.Same(a, b) != want || font.Same(b, a) != want {
		t.Errorf("Same of %v and %v: %v and %v, want %v", brief(a), brief(b), font.Same(a, b), font.Same(b, a), want)
	}
	if (font.Bytes(a) == font.Bytes(b)) != want {
		t.Errorf("Bytes of %v and %v: the same is %v, want %v", brief(a), brief(b), !want, want)
	}
}

// P10.5, P10.6
func TestSame(t *testing.T) {
	all := []api.Font{{}, {Name: "a"}, {Version: 1}, {Glyphs: make([]api.Glyph, 1)}, example(), whole(), largest()}
	for i, a := range all {
		for k, b := range all {
			checkSame(t, a, copied(b), i == k)
		}
	}
}

// P10.5, P10.6: every value in a font counts.
func TestSameAfterOneChange(t *testing.T) {
	f := whole()
	for k := range values(f) {
		for _, change := range changes {
			g := changedAt(f, k, change)
			checkSame(t, f, g, equal(f, g))
		}
	}
}

// changes are changes of any value, which stays as it is where they make no sense. Most of the fonts that come out are not valid.
var changes = []func(v reflect.Value){
	func(v reflect.Value) {
		switch v.Kind() {
		case reflect.Int:
			v.SetInt(v.Int() + 1)
		case reflect.Bool:
			v.SetBool(!v.Bool())
		case reflect.String:
			v.SetString(v.String() + "x")
		case reflect.Slice:
			v.Set(reflect.Append(v, reflect.Zero(v.Type().Elem())))
		}
	},
	func(v reflect.Value) {
		switch v.Kind() {
		case reflect.Int:
			v.SetInt(-v.Int() - 1)
		case reflect.String:
			v.SetString(strings.TrimPrefix(v.String(), v.String()[:1]))
		case reflect.Slice:
			v.Set(v.Slice(0, max(v.Len()-1, 0)))
		}
	},
	func(v reflect.Value) {
		switch v.Kind() {
		case reflect.Int:
			v.SetInt(math.MinInt)
		case reflect.String:
			v.SetString("")
		case reflect.Slice:
			v.Set(v.Slice(min(v.Len(), 1), v.Len()))
		}
	},
	func(v reflect.Value) {
		switch v.Kind() {
		case reflect.Int:
			v.SetInt(v.Int() ^ 1<<62)
		case reflect.String:
			v.SetString(strings.ToUpper(v.String()))
		case reflect.Slice:
			if v.Len() > 1 {
				first := reflect.ValueOf(v.Index(0).Interface())
				v.Index(0).Set(v.Index(v.Len() - 1))
				v.Index(v.Len() - 1).Set(first)
			}
		}
	},
	func(v reflect.Value) {
		switch v.Kind() {
		case reflect.Int:
			v.SetInt(math.MaxInt)
		case reflect.String:
			v.SetString(v.String() + "\x00")
		case reflect.Slice:
			if v.Len() > 0 {
				v.Set(reflect.Append(v, duplicate(v.Index(0))))
			}
		}
	},
}

// R1: what is nil, and what is empty.
func TestNilAndEmpty(t *testing.T) {
	for _, f := range []api.Font{{}, {Name: "a"}, example(), whole(), {Glyphs: make([]api.Glyph, 2), Lookups: []api.Lookup{{Subs: make([]api.Sub, 1)}}}, {Glyphs: []api.Glyph{{Outline: make(contours, 1), Deltas: make([]api.Delta, 1)}}}} {
		empty := copied(f)
		each(reflect.ValueOf(&empty).Elem(), func(v reflect.Value) {
			if v.Kind() == reflect.Slice && v.Len() == 0 {
				v.Set(reflect.MakeSlice(v.Type(), 0, 3))
			}
		})
		checkSame(t, f, empty, true)
		checkError(t, empty, checked(f))
	}
}

// R3, R4: fonts that are passed in stay as they were, and the same calls return the same results.
func TestFontsStayAsTheyAre(t *testing.T) {
	all := []api.Font{{}, example(), whole(), largest()}
	for _, x := range flaws {
		all = append(all, with(whole(), x.change))
	}
	for _, f := range all {
		before := copied(f)
		results := func() string {
			s := fmt.Sprint(font.Check(f), font.Find(f, "a1"), font.Of(f, 97), font.Same(f, before), font.Same(before, f), []byte(font.Bytes(f)))
			g, ok := font.Parse(font.Bytes(f))
			return s + fmt.Sprint(g, ok)
		}
		if a, b := results(), results(); a != b {
			t.Errorf("%v: the same calls return %.600s and %.600s", brief(f), a, b)
		}
		if !reflect.DeepEqual(f, before) {
			t.Errorf("the calls made %v of %v", brief(f), brief(before))
		}
	}
}
