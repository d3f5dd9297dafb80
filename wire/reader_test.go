package wire_test

import (
	"slices"
	"strings"
	"testing"

	"indelible/wire"
)

// value is what one call of a reader returned.
type value struct {
	n  int
	s  string
	ns []int
	ss []string
}

func (v value) equal(w value) bool {
	return v.n == w.n && v.s == w.s && slices.Equal(v.ns, w.ns) && slices.Equal(v.ss, w.ss)
}

// kind is a function of the package beside the method of a reader that has its name.
type kind struct {
	name  string
	write func(v value) string
	read  func(r *wire.Reader) value
}

var (
	intKind   = kind{"Int", func(v value) string { return wire.Int(v.n) }, func(r *wire.Reader) value { return value{n: r.Int()} }}
	textKind  = kind{"Text", func(v value) string { return wire.Text(v.s) }, func(r *wire.Reader) value { return value{s: r.Text()} }}
	intsKind  = kind{"Ints", func(v value) string { return wire.Ints(v.ns) }, func(r *wire.Reader) value { return value{ns: r.Ints()} }}
	textsKind = kind{"Texts", func(v value) string { return wire.Texts(v.ss) }, func(r *wire.Reader) value { return value{ss: r.Texts()} }}
	kinds     = []kind{intKind, textKind, intsKind, textsKind}
)

// checkValue checks that a reader of s returns v and leaves left bytes.
func (k kind) checkValue(t *testing.T, s string, v value, left int) {
	t.Helper()
	r := wire.New(s)
	if got := k.read(r); !got.equal(v) || r.Bad() || r.Left() != left {
		t.Errorf("%s of % x = %v, Left %d, Bad %v; want %v, Left %d", k.name, s, got, r.Left(), r.Bad(), v, left)
	}
}

// checkMalformed checks that a reader of s returns nothing, and becomes bad.
func (k kind) checkMalformed(t *testing.T, s string) {
	t.Helper()
	r := wire.New(s)
	if got := k.read(r); !got.equal(value{}) {
		t.Errorf("%s of % x = %v", k.name, s, got)
	}
	checkBad(t, r)
}

// checkBad checks that a reader is bad, and that it stays bad and decodes nothing, whatever is called.
func checkBad(t *testing.T, r *wire.Reader) {
	t.Helper()
	for _, k := range kinds {
		if !r.Bad() || r.Left() != 0 {
			t.Errorf("Bad %v, Left %d; want a bad reader", r.Bad(), r.Left())
		}
		if got := k.read(r); !got.equal(value{}) {
			t.Errorf("%s of a bad reader = %v", k.name, got)
		}
	}
	if !r.Bad() || r.Left() != 0 {
		t.Errorf("Bad %v, Left %d after some calls; want a bad reader", r.Bad(), r.Left())
	}
}

// P2.2
func TestNewReader(t *testing.T) {
	for _, s := range texts() {
		r := wire.New(s)
		if r.Bad() || r.Left() != len(s) {
			t.Errorf("New(%q): Bad %v, Left %d", s, r.Bad(), r.Left())
		}
		if r.Bad() || r.Left() != len(s) {
			t.Errorf("New(%q) after Left and Bad: Bad %v, Left %d", s, r.Bad(), r.Left())
		}
	}
}

// P2.2: a reader at the end is not bad, but it is after the next call.
func TestReaderAtTheEnd(t *testing.T) {
	for _, k := range kinds {
		r := wire.New(wire.Int(5))
		if n := r.Int(); n != 5 || r.Bad() || r.Left() != 0 {
			t.Errorf("Int = %d, Bad %v, Left %d", n, r.Bad(), r.Left())
		}
		if got := k.read(r); !got.equal(value{}) {
			t.Errorf("%s at the end = %v", k.name, got)
		}
		checkBad(t, r)
		k.checkMalformed(t, "")
	}
}

// P2.2, P2.3
func TestReaderExample(t *testing.T) {
	r := wire.New(bytes(4, 2, 3, 6))
	if l := r.Ints(); !slices.Equal(l, []int{1, -2}) || r.Bad() {
		t.Errorf("Ints = %v, Bad %v", l, r.Bad())
	}
	if left := r.Left(); left != 1 {
		t.Errorf("Left = %d", left)
	}
	if n := r.Int(); n != 3 || r.Bad() {
		t.Errorf("Int = %d, Bad %v", n, r.Bad())
	}
	if left := r.Left(); left != 0 {
		t.Errorf("Left = %d at the end", left)
	}
	if n := r.Int(); n != 0 || !r.Bad() {
		t.Errorf("Int = %d, Bad %v after the end", n, r.Bad())
	}
	checkBad(t, r)
}

// P2.3: one string is read in several ways.
func TestReaderOfLengthWithoutText(t *testing.T) {
	s := bytes(6, 97)
	intKind.checkValue(t, s, value{n: 3}, 1)
	for _, k := range []kind{textKind, intsKind, textsKind} {
		k.checkMalformed(t, s)
	}
}

// P2.3
func TestDecoding(t *testing.T) {
	for _, rest := range []string{"", "\x00", "\x80", "\xff\xff", "rest"} {
		for _, n := range append(edges(), numbers(22, 2000)...) {
			intKind.checkValue(t, wire.Int(n)+rest, value{n: n}, len(rest))
		}
		for _, s := range texts() {
			textKind.checkValue(t, wire.Text(s)+rest, value{s: s}, len(rest))
		}
		for _, l := range intLists() {
			intsKind.checkValue(t, wire.Ints(l)+rest, value{ns: l}, len(rest))
		}
		for _, l := range textLists() {
			textsKind.checkValue(t, wire.Texts(l)+rest, value{ss: l}, len(rest))
		}
	}
}

// P2.3: what is no serialization of an integer is none of anything else either, since each begins with one.
func TestMalformedIntegers(t *testing.T) {
	nine := strings.Repeat("\x80", 9)
	for _, s := range []string{
		bytes(128),                    // the last byte is missing
		bytes(255, 255),               //
		bytes(128, 0),                 // 0 in two bytes
		bytes(130, 0),                 // 1 in two bytes
		bytes(128, 129, 0),            // 64 in three bytes
		bytes(128, 128, 0),            //
		nine,                          // the last byte is missing
		nine + bytes(0),               // 0 in ten bytes
		nine + bytes(2),               // a code of 2^64
		nine + bytes(3),               //
		nine + bytes(127),             //
		nine + bytes(128),             // eleven bytes
		nine + bytes(128, 0),          //
		nine + bytes(128, 1),          //
		nine + bytes(129, 0),          //
		nine + bytes(129, 1),          //
		nine + nine + bytes(1),        //
		strings.Repeat("\xff", 10000), //
	} {
		for _, k := range kinds {
			k.checkMalformed(t, s)
			if s[len(s)-1] < 128 {
				k.checkMalformed(t, s+strings.Repeat("\x00", 300))
			}
		}
		intsKind.checkMalformed(t, wire.Int(1)+s)
		intsKind.checkMalformed(t, wire.Int(2)+wire.Int(7)+s)
		textsKind.checkMalformed(t, wire.Int(1)+s)
		textsKind.checkMalformed(t, wire.Int(2)+wire.Text("ab")+s)
	}
}

// P2.3: numbers of bytes and of elements that are negative, or greater than what follows.
func TestMalformedLengths(t *testing.T) {
	rest := strings.Repeat("\x00", 300)
	for _, n := range []int{-1, -2, -64, -65, least, least + 1, 301, 302, 1 << 31, 1 << 32, 1<<32 + 1, 1 << 40, 1 << 60, 1 << 62, most - 1, most} {
		for _, k := range []kind{textKind, intsKind, textsKind} {
			k.checkMalformed(t, wire.Int(n))
			k.checkMalformed(t, wire.Int(n)+rest)
		}
		textsKind.checkMalformed(t, wire.Int(1)+wire.Int(n)+rest)
		textsKind.checkMalformed(t, wire.Int(2)+wire.Text("ab")+wire.Int(n)+rest)
	}
	for _, k := range []kind{textKind, intsKind, textsKind} {
		k.checkMalformed(t, wire.Int(1))
		k.checkMalformed(t, wire.Int(3)+bytes(0, 0))
	}
	textKind.checkValue(t, wire.Int(300)+rest, value{s: rest}, 0)
	intsKind.checkValue(t, wire.Int(300)+rest, value{ns: make([]int, 300)}, 0)
	textsKind.checkValue(t, wire.Int(300)+rest, value{ss: make([]string, 300)}, 0)
}

// P2.4
func TestNilReader(t *testing.T) {
	var r *wire.Reader
	checkBad(t, r)
	for _, k := range kinds {
		if got := k.read(r); !got.equal(value{}) {
			t.Errorf("%s of a nil reader = %v", k.name, got)
		}
	}
}

// P2.4
func TestZeroReader(t *testing.T) {
	for _, k := range kinds {
		for _, r := range []*wire.Reader{{}, new(wire.Reader), wire.New("")} {
			if r.Bad() || r.Left() != 0 {
				t.Errorf("Bad %v, Left %d before the first call", r.Bad(), r.Left())
			}
			if got := k.read(r); !got.equal(value{}) {
				t.Errorf("%s of nothing = %v", k.name, got)
			}
			checkBad(t, r)
		}
	}
}

// R3: results share no memory with each other, and what is done to them changes no reader.
func TestResultsShareNothing(t *testing.T) {
	s := wire.Ints([]int{1, 2}) + wire.Ints([]int{3, 4}) + wire.Texts([]string{"a", "b"}) + wire.Texts([]string{"c", "d"})
	r, other := wire.New(s), wire.New(s)
	other.Ints()
	first := r.Ints()
	clear(append(first, 9, 9))
	second := r.Ints()
	clear(append(first, 9, 9))
	if !slices.Equal(second, []int{3, 4}) {
		t.Errorf("the second list has become %v", second)
	}
	names := r.Texts()
	clear(append(names, "x", "x"))
	if more := r.Texts(); !slices.Equal(more, []string{"c", "d"}) {
		t.Errorf("the last list has become %v", more)
	}
	if l := other.Ints(); !slices.Equal(l, []int{3, 4}) || r.Left() != 0 {
		t.Errorf("another reader of the string reads %v", l)
	}
}
