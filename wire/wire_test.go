package wire_test

import (
	"math"
	"math/big"
	"math/rand/v2"
	"slices"
	"strings"
	"testing"

	"indelible/wire"
)

const least, most = math.MinInt, math.MaxInt

// bytes returns a string of some bytes.
func bytes(l ...byte) string { return string(l) }

// edges are numbers around 0 and around the bounds at which the code of an integer gets another byte.
func edges() []int {
	l := []int{0, -1, 1, -2, 2, least, least + 1, most - 1, most}
	for bits := 6; bits < 63; bits++ {
		n := 1 << bits
		l = append(l, n-1, n, n+1, -n-1, -n, -n+1)
	}
	return l
}

// numbers returns n numbers of all lengths in bits, always the same ones for a seed.
func numbers(seed uint64, n int) []int {
	r := rand.New(rand.NewPCG(seed, 2))
	l := make([]int, n)
	for k := range l {
		l[k] = int(r.Uint64()) >> r.IntN(64)
	}
	return l
}

// texts returns strings whose numbers of bytes lie around the bounds of one and two groups, and some of bytes that are no text, or that are serializations themselves.
func texts() []string {
	l := []string{"", "a", "ab", "Ü", "\x00", "\x80", "\x80\x00", "\xff\xff", wire.Int(most), wire.Text("ab"), wire.Ints([]int{1, -2})}
	for _, n := range []int{63, 64, 65, 127, 128, 8191, 8192, 8193} {
		l = append(l, strings.Repeat("\x80", n), strings.Repeat("xyz", n)[:n])
	}
	return l
}

// intLists returns lists of all kinds of integers, and of as many elements as need one or two groups.
func intLists() [][]int {
	l := [][]int{nil, {}, {0}, {-1}, {0, 0}, {1, -2}, {least, most}, {64}, {-64, -65}, edges(), make([]int, 63), make([]int, 64), make([]int, 8192)}
	for k := range 20 {
		l = append(l, numbers(uint64(k), k))
	}
	return l
}

// textLists returns lists of all kinds of strings, and of as many elements as need one or two groups.
func textLists() [][]string {
	all := texts()
	l := [][]string{nil, {}, {""}, {"", ""}, {"", "a"}, {"a", ""}, all, make([]string, 63), make([]string, 64), make([]string, 8192)}
	for k := range all {
		l = append(l, all[k:min(k+3, len(all))])
	}
	return l
}

// integer returns the serialization of n, made of the digits of its code to the base 128.
func integer(n int) string {
	code := new(big.Int).Lsh(big.NewInt(int64(n)), 1)
	if n < 0 {
		code.Neg(code).Sub(code, big.NewInt(1))
	}
	var l []byte
	for base := big.NewInt(128); ; {
		digit := new(big.Int)
		code.DivMod(code, base, digit)
		l = append(l, byte(digit.Int64()))
		if code.Sign() == 0 {
			break
		}
		l[len(l)-1] += 128
	}
	return string(l)
}

// P2.1
func TestExamplesOfInt(t *testing.T) {
	for n, want := range map[int]string{
		0:        bytes(0),
		-1:       bytes(1),
		1:        bytes(2),
		-2:       bytes(3),
		63:       bytes(126),
		-64:      bytes(127),
		64:       bytes(128, 1),
		-65:      bytes(129, 1),
		8191:     bytes(254, 127),
		-8192:    bytes(255, 127),
		8192:     bytes(128, 128, 1),
		-8193:    bytes(129, 128, 1),
		1 << 62:  bytes(128, 128, 128, 128, 128, 128, 128, 128, 128, 1),
		-1 << 62: bytes(255, 255, 255, 255, 255, 255, 255, 255, 127),
		most:     bytes(254, 255, 255, 255, 255, 255, 255, 255, 255, 1),
		least:    bytes(255, 255, 255, 255, 255, 255, 255, 255, 255, 1),
	} {
		if got := wire.Int(n); got != want {
			t.Errorf("Int(%d) = % x; want % x", n, got, want)
		}
	}
}

// P2.1
func TestInt(t *testing.T) {
	for _, n := range append(edges(), numbers(21, 20000)...) {
		if got, want := wire.Int(n), integer(n); got != want {
			t.Errorf("Int(%d) = % x; want % x", n, got, want)
		}
	}
}

// P2.1
func TestText(t *testing.T) {
	if got := wire.Text("ab"); got != bytes(4, 97, 98) {
		t.Errorf("Text(ab) = % x", got)
	}
	if got := wire.Text(""); got != bytes(0) {
		t.Errorf("Text of nothing = % x", got)
	}
	for _, s := range texts() {
		if got, want := wire.Text(s), integer(len(s))+s; got != want {
			t.Errorf("Text(%q) = % x; want % x", s, got, want)
		}
	}
}

// P2.1, R1
func TestInts(t *testing.T) {
	if got := wire.Ints([]int{1, -2}); got != bytes(4, 2, 3) {
		t.Errorf("Ints(1, -2) = % x", got)
	}
	for _, l := range [][]int{nil, {}} {
		if got := wire.Ints(l); got != bytes(0) {
			t.Errorf("Ints of nothing = % x", got)
		}
	}
	for _, l := range intLists() {
		want := integer(len(l))
		for _, n := range l {
			want += integer(n)
		}
		if got := wire.Ints(l); got != want {
			t.Errorf("Ints(%v) = % x; want % x", l, got, want)
		}
	}
}

// P2.1, R1
func TestTexts(t *testing.T) {
	if got := wire.Texts([]string{"", "a"}); got != bytes(4, 0, 2, 97) {
		t.Errorf("Texts of nothing and a = % x", got)
	}
	for _, l := range [][]string{nil, {}} {
		if got := wire.Texts(l); got != bytes(0) {
			t.Errorf("Texts of nothing = % x", got)
		}
	}
	for _, l := range textLists() {
		want := integer(len(l))
		for _, s := range l {
			want += integer(len(s)) + s
		}
		if got := wire.Texts(l); got != want {
			t.Errorf("Texts(%q) = % x; want % x", l, got, want)
		}
	}
}

// R3
func TestArgumentsAreNotModified(t *testing.T) {
	n, s := []int{1, -2, most}, []string{"a", "", "xyz"}
	first, second := slices.Clone(n), slices.Clone(s)
	wire.Ints(n[:2])
	wire.Texts(s[:2])
	if !slices.Equal(n, first) || !slices.Equal(s, second) {
		t.Errorf("the arguments have become %v and %q", n, s)
	}
}
