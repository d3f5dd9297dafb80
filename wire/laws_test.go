package wire_test

import (
	"math/rand/v2"
	"strings"
	"testing"

	"indelible/wire"
)

// values returns values of a kind.
func values(k kind) []value {
	var l []value
	switch k.name {
	case "Int":
		for _, n := range append(edges(), numbers(23, 500)...) {
			l = append(l, value{n: n})
		}
	case "Text":
		for _, s := range texts() {
			l = append(l, value{s: s})
		}
	case "Ints":
		for _, x := range intLists() {
			l = append(l, value{ns: x})
		}
	case "Texts":
		for _, x := range textLists() {
			l = append(l, value{ss: x})
		}
	}
	return l
}

// P2.5
func TestConcatenations(t *testing.T) {
	random := rand.New(rand.NewPCG(24, 2))
	all := make([][]value, len(kinds))
	for k := range kinds {
		all[k] = values(kinds[k])
	}
	for range 300 {
		var of []kind
		var want []value
		var s strings.Builder
		for range random.IntN(12) {
			k := random.IntN(len(kinds))
			v := all[k][random.IntN(len(all[k]))]
			of, want = append(of, kinds[k]), append(want, v)
			s.WriteString(kinds[k].write(v))
		}
		r := wire.New(s.String())
		left := r.Left()
		for n, k := range of {
			left -= len(k.write(want[n]))
			if got := k.read(r); !got.equal(want[n]) || r.Bad() || r.Left() != left {
				t.Errorf("%s as number %d = %v, Left %d, Bad %v; want %v, Left %d", k.name, n, got, r.Left(), r.Bad(), want[n], left)
			}
		}
		if left != 0 {
			t.Errorf("%d bytes are left", left)
		}
	}
}

// P2.5
func TestNoSerializationBeginsAnother(t *testing.T) {
	for _, k := range kinds {
		all := values(k)
		for _, v := range all {
			for _, w := range all {
				same := v.equal(w)
				if strings.HasPrefix(k.write(v), k.write(w)) != same {
					t.Errorf("%s of %v and of %v: one begins the other, or equal values differ", k.name, v, w)
				}
			}
		}
	}
}

// P2.6
func TestShortenedSerializations(t *testing.T) {
	for _, k := range kinds {
		for _, v := range values(k) {
			s := k.write(v)
			for n := range len(s) {
				if n < 300 || n > len(s)-300 { // enough of the long ones
					k.checkMalformed(t, s[:n])
				}
			}
		}
	}
}

// P2.7
func TestNumberOfBytes(t *testing.T) {
	for n := -10000; n <= 10000; n++ {
		if one := len(wire.Int(n)) == 1; one != (n >= -64 && n <= 63) {
			t.Errorf("Int(%d) has one byte: %v", n, one)
		}
	}
	longest := 0
	for _, n := range append(edges(), numbers(25, 20000)...) {
		longest = max(longest, len(wire.Int(n)))
	}
	if longest != 10 {
		t.Errorf("the longest serialization of an integer has %d bytes", longest)
	}
}

// P1, R4: whatever the string is, the calls end, the same calls return the same results, and what was read is what the serialization of the result says.
func TestDecodingIsTotalAndDeterministic(t *testing.T) {
	random := rand.New(rand.NewPCG(26, 2))
	for range 20000 {
		s := make([]byte, random.IntN(24))
		for k := range s {
			s[k] = few[random.IntN(len(few))] + byte(random.IntN(2)*random.IntN(8))
		}
		r, again := wire.New(string(s)), wire.New(string(s))
		for !r.Bad() {
			k := kinds[random.IntN(len(kinds))]
			position := len(s) - r.Left()
			v, w := k.read(r), k.read(again)
			if !v.equal(w) || r.Bad() != again.Bad() || r.Left() != again.Left() {
				t.Fatalf("% x: %s reads %v and then %v", s, k.name, v, w)
			}
			if !r.Bad() && k.write(v) != string(s[position:len(s)-r.Left()]) {
				t.Fatalf("% x: %s reads %v at byte %d, and %d are left", s, k.name, v, position, r.Left())
			}
		}
		checkBad(t, r)
	}
}
