package wire_test

import (
	"slices"
	"testing"

	"indelible/wire"
)

// few are the bytes of which the short strings are made; those below 128 come first.
var few = []byte{0, 1, 2, 3, 4, 128, 129, 255}

// size is the greatest number of bytes of a short string.
const size = 4

// short returns all strings of few bytes that have n bytes at most.
func short(n int) []string {
	l := []string{""}
	first := 0
	for range n {
		last := len(l)
		for _, s := range l[first:last] {
			for _, b := range few {
				l = append(l, s+string([]byte{b}))
			}
		}
		first = last
	}
	return l
}

// shortIntegers returns all integers whose serializations may be short strings: those of the codes that have only groups of few bytes.
func shortIntegers() []int {
	codes := []int{0, 1, 2, 3, 4}
	first := 0
	for range size - 1 {
		last := len(codes)
		for _, c := range codes[first:last] {
			codes = append(codes, 128*c, 128*c+1, 128*c+127)
		}
		first = last
	}
	var l []int
	for _, c := range codes {
		if c%2 == 0 {
			l = append(l, c/2)
		} else {
			l = append(l, -(c+1)/2)
		}
	}
	return l
}

// shortLists returns the lists of elements of all whose serializations by write are short ones.
func shortLists[T any](all []T, write func(l []T) string) [][]T {
	lists := [][]T{nil}
	for n := 0; n < len(lists); n++ {
		for _, x := range all {
			l := append(slices.Clip(lists[n]), x)
			if len(write(l)) <= size {
				lists = append(lists, l)
			}
		}
	}
	return lists
}

// shortValues returns all values of a kind whose serializations may be short strings, by their serializations.
func shortValues(k kind) map[string]value {
	all := map[string]value{}
	add := func(v value) { all[k.write(v)] = v }
	switch k.name {
	case "Int":
		for _, n := range shortIntegers() {
			add(value{n: n})
		}
	case "Text":
		for _, s := range short(size - 1) {
			add(value{s: s})
		}
	case "Ints":
		for _, l := range shortLists(shortIntegers(), wire.Ints) {
			add(value{ns: l})
		}
	case "Texts":
		for _, l := range shortLists(short(size-2), wire.Texts) {
			add(value{ss: l})
		}
	}
	return all
}

// beginning returns the serialization among all with which s begins: its length and its value.
func beginning(s string, all map[string]value) (int, value, bool) {
	for n := range len(s) + 1 {
		if v, ok := all[s[:n]]; ok {
			return n, v, true
		}
	}
	return 0, value{}, false
}

// P2.3: of all short strings, exactly those that begin with a serialization are decoded.
func TestAllShortStrings(t *testing.T) {
	strings := short(size)
	for _, k := range kinds {
		all := shortValues(k)
		decoded := 0
		for _, s := range strings {
			if n, v, ok := beginning(s, all); ok {
				decoded++
				k.checkValue(t, s, v, len(s)-n)
			} else {
				k.checkMalformed(t, s)
			}
		}
		if decoded < 400 || decoded > len(strings)-400 {
			t.Errorf("%s: %d of the %d strings begin with a serialization", k.name, decoded, len(strings))
		}
	}
}
