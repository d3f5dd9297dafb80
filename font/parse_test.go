package font_test

import (
	"cmp"
	"math"
	"math/rand/v2"
	"reflect"
	"slices"
	"strings"
	"testing"

	"indelible/api"
	"indelible/font"
)

// checkParse checks that a font, if it is valid, comes back from its serialization, and that otherwise nothing does.
func checkParse(t *testing.T, f api.Font) {
	t.Helper()
	s := joined(tokens(f))
	got, ok := font.Parse(s)
	if want := checked(f) == api.OK; ok != want || ok && !equal(got, f) {
		t.Errorf("Parse of the bytes of %v = %v, %v; want %v", brief(f), brief(got), ok, want)
	}
	if !ok && !equal(got, api.Font{}) {
		t.Errorf("Parse of the bytes of %v = %v, false", brief(f), brief(got))
	}
}

// checkRefused checks that a string is not the serialization of a valid font.
func checkRefused(t *testing.T, s string) {
	t.Helper()
	if f, ok := font.Parse(s); ok || !equal(f, api.Font{}) {
		t.Errorf("Parse(% .600x) = %v, %v", s, brief(f), ok)
	}
}

// checkString checks that Parse of any string returns a valid font with this serialization, or nothing. It reports which of them.
func checkString(t *testing.T, s string) bool {
	t.Helper()
	f, ok := font.Parse(s)
	if ok && (checked(f) != api.OK || joined(tokens(f)) != s) {
		t.Errorf("Parse(% .600x) = %v, true", s, brief(f))
	}
	if !ok && !equal(f, api.Font{}) {
		t.Errorf("Parse(% .600x) = %v, false", s, brief(f))
	}
	return ok
}

// P10.4: fonts that are valid, and others.
func TestParse(t *testing.T) {
	for _, f := range []api.Font{{}, example(), whole(), largest(), {Name: "a", Glyphs: glyphs(1)}, {Name: "a", Glyphs: glyphs(96)}, {Name: "a", Glyphs: glyphs(97)}, {Name: "a"}} {
		checkParse(t, f)
	}
	for _, x := range flaws {
		checkParse(t, with(whole(), x.change))
	}
	f := whole()
	for k := range values(f) {
		for _, change := range changes {
			checkParse(t, changedAt(f, k, change))
		}
	}
}

// P10.4: strings that begin or end otherwise.
func TestParseOfPartsAndMore(t *testing.T) {
	for _, f := range []api.Font{{Name: "a", Glyphs: glyphs(1)}, example(), whole()} {
		s := joined(tokens(f))
		for n := range len(s) {
			checkRefused(t, s[:n])
			if n > 0 {
				checkRefused(t, s[n:])
			}
		}
		for c := range 256 {
			b := string([]byte{byte(c)})
			checkRefused(t, s+b)
			checkRefused(t, b+s)
			checkRefused(t, s+b+s)
		}
		checkRefused(t, s+s)
	}
	for _, s := range []string{"", "\x00", "a", strings.Repeat("\x00", 7), strings.Repeat("\x02", 100), strings.Repeat("\xff", 100)} {
		checkRefused(t, s)
	}
}

// P10.4: each byte is changed to each other one.
func TestParseOfOtherBytes(t *testing.T) {
	accepted := 0
	for _, f := range []api.Font{{Name: "a", Glyphs: glyphs(1)}, example(), whole()} {
		s := []byte(joined(tokens(f)))
		for n := range s {
			for c := range 256 {
				b := slices.Clone(s)
				b[n] = byte(c)
				if checkString(t, string(b)) {
					accepted++
				}
			}
			checkString(t, string(slices.Delete(slices.Clone(s), n, n+1)))
			checkString(t, string(slices.Insert(slices.Clone(s), n, 0)))
			checkString(t, string(slices.Insert(slices.Clone(s), n, s[n])))
		}
	}
	if accepted < 10000 {
		t.Errorf("only %d strings were accepted", accepted)
	}
}

// longer are the bytes of a number, or of the length of a string, with an unnecessary group.
func longer(t token) string {
	n := t.n
	if t.isText {
		n = len(t.s)
	}
	b := []byte(token{n: n}.bytes())
	b[len(b)-1] |= 128
	return string(b) + "\x00" + t.s
}

// replaced returns a serialization with other bytes in the place of the token k.
func replaced(l []token, k int, s string) string { return joined(l[:k]) + s + joined(l[k+1:]) }

// P10.4: numbers that are not in their shortest form.
func TestParseOfLongerNumbers(t *testing.T) {
	for _, f := range []api.Font{{Name: "a", Glyphs: glyphs(1)}, example(), whole()} {
		l := tokens(f)
		for k, x := range l {
			if s := replaced(l, k, x.bytes()); !checkString(t, s) {
				t.Errorf("the bytes of %v are refused", brief(f))
			}
			checkRefused(t, replaced(l, k, longer(x)))
		}
	}
}

// P10.4: other numbers in each place, among them numbers of elements that are negative, or greater than what follows.
func TestParseOfOtherNumbers(t *testing.T) {
	for _, f := range []api.Font{{Name: "a", Glyphs: glyphs(1)}, example(), whole()} {
		l := tokens(f)
		for k, x := range l {
			n := x.n
			if x.isText {
				n = len(x.s)
			}
			for _, m := range append([]int{-2, -1, 0, 1, 2, 3, n - 3, n - 1, n + 1, n + 3, -n, len(joined(l[k:])), 1 << 20}, extremes...) {
				checkString(t, replaced(l, k, token{n: m}.bytes()+x.s))
			}
		}
	}
}

// P10.4: numbers of elements of which none is there.
func TestParseOfNumbersOfElements(t *testing.T) {
	good := api.Font{Name: "a", Glyphs: glyphs(1)}
	l := tokens(good)
	// Name and Version; Axes; Glyphs; Name and Advance; Outline, Deltas, Parts, Hint, Alts; Chars, Lookups, Kerns
	for _, k := range []int{2, 3, 6, 7, 8, 9, 10, 11, 12, 13} {
		for n := -300; n < 300; n++ {
			if n != l[k].n {
				checkRefused(t, replaced(l, k, token{n: n}.bytes()))
			}
		}
		for _, n := range extremes {
			checkRefused(t, replaced(l, k, token{n: n}.bytes()))
			checkRefused(t, joined(l[:k])+token{n: n}.bytes())
		}
	}
	// The numbers of substitutions are in a lookup.
	good.Lookups = make([]api.Lookup, 1)
	l = tokens(good)
	checkParse(t, good)
	for n := -300; n < 300; n++ {
		if n != 0 {
			checkRefused(t, replaced(l, 13, token{n: n}.bytes()))
		}
	}
	checkRefused(t, replaced(l, 13, token{n: math.MinInt}.bytes()))
	checkRefused(t, replaced(l, 13, token{n: math.MaxInt}.bytes()))
}

// P10.4: On that is neither 1 nor 0.
func TestParseOfOn(t *testing.T) {
	f := example()
	l := tokens(f)
	// 0 is for a point off the curve, which only the first one must not be.
	at := slices.IndexFunc(l, func(x token) bool { return x.s == "a" }) + 4
	for k := range 3 {
		place := at + 3*k + 2
		if l[place].n != 1 {
			t.Fatalf("the token %d is %v", place, l[place])
		}
		for _, n := range append([]int{-256, -255, -2, -1, 0, 1, 2, 3, 128, 255, 256, 257}, extremes...) {
			s := replaced(l, place, token{n: n}.bytes())
			want := n == 1 || n == 0 && k > 0
			if checkString(t, s) != want {
				t.Errorf("On of the point %d is %d: accepted is %v", k, n, !want)
			}
		}
	}
}

// P10.4: lists of numbers of which some at the end make no element.
func TestParseOfLengths(t *testing.T) {
	widths := map[int]int{}
	for _, f := range []api.Font{{Name: "a", Glyphs: glyphs(1)}, example(), whole()} {
		l := tokens(f)
		for k, x := range l {
			widths[x.each]++
			for n := 1; n < x.each; n++ {
				more := token{n: x.n + n}.bytes() + joined(l[k+1:k+1+x.n]) + joined(make([]token, n))
				checkRefused(t, joined(l[:k])+more+joined(l[k+1+x.n:]))
				if x.n > 0 {
					fewer := token{n: x.n - n}.bytes() + joined(l[k+1:k+1+x.n-n])
					checkRefused(t, joined(l[:k])+fewer+joined(l[k+1+x.n:]))
				}
			}
		}
	}
	if widths[2] < 6 || widths[3] < 30 {
		t.Errorf("so many lists have elements of so many numbers: %v", widths)
	}
}

// P10.4: axes that have other than three numbers.
func TestParseOfLengthsOfAxes(t *testing.T) {
	f := api.Font{Name: "a", Axes: []api.Axis{{Tag: "t"}}, Glyphs: glyphs(1)}
	l := tokens(f)
	for n := range 10 {
		s := joined(l[:4]) + token{n: n}.bytes() + joined(make([]token, n)) + joined(l[8:])
		if checkString(t, s) != (n == 3) {
			t.Errorf("an axis with %d numbers: accepted is %v", n, n != 3)
		}
	}
}

// P10.4, P1: any strings, most of which begin as a serialization does.
func TestParseOfAnyString(t *testing.T) {
	r := rand.New(rand.NewPCG(41, 10))
	l := tokens(whole())
	for range 20000 {
		s := []byte(joined(l[:r.IntN(len(l))]))
		for range r.IntN(30) {
			s = append(s, byte(r.IntN(4)*r.IntN(86)))
		}
		s = append(s, joined(l[r.IntN(len(l)):])...)
		checkString(t, string(s))
	}
	for range 20000 {
		s := []byte{2, 'a', 0, byte(2 * r.IntN(2))}
		for range r.IntN(60) {
			s = append(s, byte([]int{0, 0, 2, 2, 4, 6, 'b', 'c', 1, 3, 12, 128, r.IntN(256)}[r.IntN(13)]))
		}
		checkString(t, string(s))
	}
	for _, n := range []int{1, 2, 10, 100000} {
		for _, c := range []byte{0, 1, 2, 3, 4, 127, 128, 129, 255} {
			checkRefused(t, strings.Repeat(string([]byte{c}), n))
			checkRefused(t, "\x02a\x00"+strings.Repeat(string([]byte{c}), n))
		}
	}
}

// R3: no two lists of a result share memory.
func TestParseSharesNoMemory(t *testing.T) {
	type area struct{ begin, end uintptr }
	f, _ := font.Parse(joined(tokens(largest())))
	var all []area
	each(reflect.ValueOf(&f).Elem(), func(v reflect.Value) {
		if v.Kind() == reflect.Slice && v.Cap() > 0 {
			begin := v.Pointer()
			all = append(all, area{begin, begin + uintptr(v.Cap())*v.Type().Elem().Size()})
		}
	})
	slices.SortFunc(all, func(a, b area) int { return cmp.Compare(a.begin, b.begin) })
	for k := range all {
		if k > 0 && all[k-1].end > all[k].begin {
			t.Errorf("%v and %v overlap", all[k-1], all[k])
		}
	}
	if len(all) < 1000 {
		t.Errorf("there are only %d lists", len(all))
	}
}
