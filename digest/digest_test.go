package digest_test

import (
	"encoding/hex"
	"math/big"
	"math/rand/v2"
	"strings"
	"testing"

	"indelible/digest"
)

// remainder returns what follows from first by adding all bytes of s, each one more and with its power of the factor: as one sum without bounds, of which the remainder is taken once.
func remainder(s string, first, factor, prime int64) uint32 {
	sum, power := new(big.Int), big.NewInt(1)
	for k := len(s) - 1; k >= 0; k-- {
		sum.Add(sum, new(big.Int).Mul(power, big.NewInt(int64(s[k])+1)))
		power.Mul(power, big.NewInt(factor))
	}
	sum.Add(sum, power.Mul(power, big.NewInt(first)))
	return uint32(sum.Mod(sum, big.NewInt(prime)).Uint64())
}

// four returns n modulo 2^32 as four bytes, the most significant one first.
func four(n int) string {
	var l []byte
	for k := 3; k >= 0; k-- {
		l = append(l, byte(n>>(8*k)))
	}
	return string(l)
}

// want returns the digest of s.
func want(s string) string {
	return four(int(remainder(s, 41, 40014, 2147483563))) + four(int(remainder(s, 43, 40692, 2147483399)))
}

// texts returns strings of all lengths to 20 and some others, of all kinds of bytes, and some that begin like what the package puts together.
func texts() []string {
	l := []string{"", "a", "b", "ab", "ba", "abc", "Ü", "\x00", "\x00\x00", "\xff", "\xff\xff", "\x80", "\xc3", "c", "m", "l", "v", "n",
		"c\x00\x00\x00\x00", "m\x00\x00\x00\x01kmk", "la", digest.Of(""), digest.Of("a"), "n" + digest.Of("la") + digest.Of("lb")}
	r := rand.New(rand.NewPCG(31, 3))
	for n := range 20 {
		l = append(l, random(r, n+1))
	}
	for _, n := range []int{63, 255, 256, 257, 1000} {
		l = append(l, random(r, n), strings.Repeat("\xff", n))
	}
	return l
}

// random returns a string of n bytes of all kinds.
func random(r *rand.Rand, n int) string {
	s := make([]byte, n)
	for k := range s {
		s[k] = byte(r.Uint32())
	}
	return string(s)
}

// P3.1: these were calculated without the program.
func TestKnownDigests(t *testing.T) {
	for s, want := range map[string]string{
		"":                           "000000290000002b",
		"\x00":                       "0019087f001ab2fd",
		"\xff":                       "0019097e001ab3fc",
		"a":                          "001908e0001ab35e",
		"ab":                         "49093e9914271a14",
		"ba":                         "4909dae61427b907",
		"Ü":                          "494514af1463f3b6",
		"\x00\x00":                   "48ce04a913eadf3e",
		"indelible":                  "2a7ec0610252a4bf",
		strings.Repeat("\xff", 1000): "57b78cea7d6387dd",
		strings.Repeat("xyz", 333):   "3f30182c7dcf8152",
	} {
		if got := hex.EncodeToString([]byte(digest.Of(s))); got != want {
			t.Errorf("Of(%.40q) = %s; want %s", s, got, want)
		}
	}
}

// P3.1
func TestOf(t *testing.T) {
	for _, s := range texts() {
		if got := digest.Of(s); got != want(s) {
			t.Errorf("Of(%.40q) = % x; want % x", s, got, want(s))
		}
	}
	for c := range 256 {
		for _, s := range []string{string([]byte{byte(c)}), string([]byte{byte(c), 'x'}), string([]byte{'x', byte(c)})} {
			if got := digest.Of(s); got != want(s) {
				t.Errorf("Of(%q) = % x; want % x", s, got, want(s))
			}
		}
	}
}

// P3.2
func TestExampleOfChain(t *testing.T) {
	if got := digest.Chain("", ""); got != digest.Of("\x63\x00\x00\x00\x00") {
		t.Errorf("Chain of nothing and nothing = % x", got)
	}
}

// P3.2
func TestChain(t *testing.T) {
	all := texts()
	for _, before := range all {
		for _, s := range all {
			if got := digest.Chain(before, s); got != digest.Of("\x63"+four(len(before))+before+s) {
				t.Errorf("Chain(%.40q, %.40q) = % x", before, s, got)
			}
		}
	}
}

// P3.2, P3.3: each of the four bytes of a length counts.
func TestLengths(t *testing.T) {
	for _, n := range []int{1, 255, 256, 257, 65535, 65536, 65537, 1<<24 + 1} {
		long := strings.Repeat("x", n)
		if got := digest.Chain(long, "s"); got != digest.Of("\x63"+four(n)+long+"s") {
			t.Errorf("Chain of %d bytes = % x", n, got)
		}
		if got := digest.Mark(long, "s"); got != digest.Of("\x6d"+four(n)+long+"s"+long) {
			t.Errorf("Mark under %d bytes = % x", n, got)
		}
	}
}

// P3.2: where one string ends and the other begins counts.
func TestChainTellsItsStringsApart(t *testing.T) {
	s := "abcdefgh"
	seen := map[string]int{}
	for k := range len(s) + 1 {
		d := digest.Chain(s[:k], s[k:])
		if first, ok := seen[d]; ok {
			t.Errorf("Chain is the same for %q, parted at %d and at %d", s, first, k)
		}
		seen[d] = k
	}
}

// P3.3
func TestExamplesOfMark(t *testing.T) {
	mark := digest.Mark("k", "m")
	if mark != digest.Of("\x6d\x00\x00\x00\x01\x6b\x6d\x6b") {
		t.Errorf("Mark of k and m = % x", mark)
	}
	if !digest.Check("k", "m", mark) {
		t.Error("Check refuses the mark of k and m")
	}
	if digest.Check("", "m", digest.Mark("", "m")) {
		t.Error("Check accepts a mark under no key")
	}
}

// P3.3
func TestMark(t *testing.T) {
	all := texts()
	for _, key := range all {
		for _, msg := range all {
			mark := digest.Mark(key, msg)
			if mark != digest.Of("\x6d"+four(len(key))+key+msg+key) {
				t.Errorf("Mark(%.40q, %.40q) = % x", key, msg, mark)
			}
			if got := digest.Check(key, msg, mark); got != (key != "") {
				t.Errorf("Check(%.40q, %.40q) = %v for its mark", key, msg, got)
			}
		}
	}
}

// P3.3
func TestCheckRefusesOtherKeysAndMessages(t *testing.T) {
	all := texts()
	for _, key := range all {
		for _, msg := range all {
			mark := digest.Mark(key, msg)
			for _, other := range all {
				if other != key && digest.Check(other, msg, mark) {
					t.Errorf("the mark of %.40q under %.40q is accepted under %.40q", msg, key, other)
				}
				if other != msg && digest.Check(key, other, mark) {
					t.Errorf("the mark of %.40q under %.40q is accepted for %.40q", msg, key, other)
				}
			}
		}
	}
}

// others returns strings that are not the digest d: with a byte changed, of other lengths, and turned around.
func others(d string) []string {
	l := []string{"", d[:1], d[:4], d[:7], d[1:], d + "\x00", "\x00" + d, d + d, d[4:] + d[:4], hex.EncodeToString([]byte(d))}
	for k := range len(d) {
		for c := range 256 {
			if byte(c) != d[k] {
				l = append(l, d[:k]+string([]byte{byte(c)})+d[k+1:])
			}
		}
	}
	return l
}

// P3.3
func TestCheckRefusesOtherMarks(t *testing.T) {
	mark := digest.Mark("key", "message")
	for _, other := range others(mark) {
		if digest.Check("key", "message", other) {
			t.Errorf("the mark % x is accepted in place of % x", other, mark)
		}
	}
	for _, other := range append(others(digest.Mark("", "message")), digest.Of("message"), digest.Chain("key", "message")) {
		if digest.Check("", "message", other) || digest.Check("key", "message", other) {
			t.Errorf("the mark % x is accepted", other)
		}
	}
	if digest.Check("key", "message", strings.Repeat("\x00", 8)) {
		t.Error("a mark of zeros is accepted")
	}
}

// P3.6
func TestOneByteChangesTheDigest(t *testing.T) {
	for _, s := range texts() {
		for k := range min(len(s), 40) {
			seen := map[string]bool{}
			for c := range 256 {
				seen[digest.Of(s[:k]+string([]byte{byte(c)})+s[k+1:])] = true
			}
			if len(seen) != 256 {
				t.Errorf("byte %d of %.40q: 256 strings have %d digests", k, s, len(seen))
			}
		}
	}
}

// R4
func TestDigestsAreDeterministic(t *testing.T) {
	for _, s := range texts() {
		of, chain, mark := digest.Of(s), digest.Chain(s, "x"), digest.Mark(s, "x")
		digest.Root([]string{s, "x"})
		if digest.Of(s) != of || digest.Chain(s, "x") != chain || digest.Mark(s, "x") != mark {
			t.Errorf("the digests of %.40q differ from call to call", s)
		}
	}
}
