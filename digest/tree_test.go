package digest_test

import (
	"fmt"
	"math"
	"math/rand/v2"
	"slices"
	"strings"
	"testing"

	"indelible/digest"
)

const least, most = math.MinInt, math.MaxInt

// lists returns lists of all lengths to 20 and of some others around powers of two: of different strings, of equal ones, and of a few that come again.
func lists() [][]string {
	l := [][]string{nil, {}, {""}, {"", ""}, {"v"}, {"", "v", "l", "n"}, texts()}
	r := rand.New(rand.NewPCG(32, 3))
	for _, n := range []int{1, 2, 3, 4, 5, 6, 7, 8, 9, 10, 11, 12, 13, 14, 15, 16, 17, 18, 19, 20, 31, 32, 33, 63, 64, 65, 97} {
		different, equal, few := make([]string, n), make([]string, n), make([]string, n)
		for k := range n {
			different[k] = fmt.Sprint("string ", k)
			equal[k] = "same"
			few[k] = random(r, 1)[:r.IntN(2)]
		}
		l = append(l, different, equal, few)
	}
	return l
}

// widthOf returns the least power of two that is not less than n.
func widthOf(n int) int {
	width := 1
	for width < n {
		width *= 2
	}
	return width
}

// part returns the digest above the width lowest digests of the tree of l that begin with the index from.
func part(l []string, from, width int) string {
	if width > 1 {
		return digest.Of("\x6e" + part(l, from, width/2) + part(l, from+width/2, width/2))
	}
	if from < len(l) {
		return digest.Of("\x6c" + l[from])
	}
	return digest.Of("\x76")
}

// proofWithin returns the neighbours of what belongs to the string i of l, among the width lowest digests that begin with the index from.
func proofWithin(l []string, i, from, width int) []string {
	if width == 1 {
		return nil
	}
	half := width / 2
	if i < from+half {
		return append(proofWithin(l, i, from, half), part(l, from+half, half))
	}
	return append(proofWithin(l, i, from+half, half), part(l, from, half))
}

// rootOf returns the root that a proof leads to, whatever its elements are.
func rootOf(leaf string, i int, proof []string) string {
	d := digest.Of("\x6c" + leaf)
	for k, other := range proof {
		if i>>k&1 == 0 {
			d = digest.Of("\x6e" + d + other)
		} else {
			d = digest.Of("\x6e" + other + d)
		}
	}
	return d
}

// digests returns n digests.
func digests(n int) []string {
	l := make([]string, n)
	for k := range l {
		l[k] = digest.Of(fmt.Sprint("digest ", k))
	}
	return l
}

// P3.4
func TestExamplesOfRoot(t *testing.T) {
	a, b, rest := digest.Of("\x6c\x61"), digest.Of("\x6c\x62"), digest.Of("\x76")
	for _, x := range []struct {
		l    []string
		want string
	}{
		{nil, rest},
		{[]string{}, rest},
		{[]string{"a"}, a},
		{[]string{"a", "b"}, digest.Of("\x6e" + a + b)},
		{[]string{"b", "a"}, digest.Of("\x6e" + b + a)},
		{[]string{"a", "b", "a"}, digest.Of("\x6e" + digest.Of("\x6e"+a+b) + digest.Of("\x6e"+a+rest))},
	} {
		if got := digest.Root(x.l); got != x.want {
			t.Errorf("Root(%q) = % x; want % x", x.l, got, x.want)
		}
	}
}

// P3.4
func TestRoot(t *testing.T) {
	for _, l := range lists() {
		if got, want := digest.Root(l), part(l, 0, widthOf(len(l))); got != want {
			t.Errorf("Root of %d strings = % x; want % x", len(l), got, want)
		}
	}
}

// P3.4
func TestExampleOfProve(t *testing.T) {
	want := []string{digest.Of("\x76"), digest.Of("\x6e" + digest.Of("\x6c\x61") + digest.Of("\x6c\x62"))}
	if got, ok := digest.Prove([]string{"a", "b", "c"}, 2); !ok || !slices.Equal(got, want) {
		t.Errorf("Prove = %x, %v; want %x", got, ok, want)
	}
	if got, ok := digest.Prove([]string{"a"}, 0); !ok || len(got) != 0 {
		t.Errorf("Prove of the only string = %x, %v", got, ok)
	}
}

// P3.4
func TestProve(t *testing.T) {
	for _, l := range lists() {
		for i := range l {
			want := proofWithin(l, i, 0, widthOf(len(l)))
			if got, ok := digest.Prove(l, i); !ok || !slices.Equal(got, want) {
				t.Errorf("Prove of %d strings with %d = %x, %v; want %x", len(l), i, got, ok, want)
			}
		}
	}
}

// P3.4: what is no index of the list has no proof, be it in the tree or not.
func TestProveOfNoIndex(t *testing.T) {
	for _, l := range lists() {
		n := len(l)
		no := []int{least, least + 1, -n - 1, -n, -2, -1, n, n + 1, 2*n + 1, 1 << 32, 1<<32 + 1, most - 1, most}
		for i := n; i <= 2*widthOf(n); i++ {
			no = append(no, i)
		}
		for _, i := range no {
			if i == 0 && n > 0 {
				continue
			}
			if got, ok := digest.Prove(l, i); ok || len(got) != 0 {
				t.Errorf("Prove of %d strings with %d = %x, %v", n, i, got, ok)
			}
		}
	}
}

// P3.5
func TestExamplesOfVerify(t *testing.T) {
	root := digest.Root([]string{"a"})
	for _, none := range [][]string{nil, {}} {
		if !digest.Verify(root, "a", 0, none) {
			t.Error("Verify refuses the only string")
		}
		if digest.Verify(root, "a", 1, none) {
			t.Error("Verify accepts the index 1 without a proof")
		}
	}
}

// P3.5: no list is needed for a proof that is accepted, up to 40 elements.
func TestVerify(t *testing.T) {
	r := rand.New(rand.NewPCG(33, 3))
	for n := range 41 {
		proof := digests(n)
		count := 1 << n
		for _, i := range []int{0, 1, 2, count / 3, count / 2, count - 2, count - 1, r.IntN(count), r.IntN(count)} {
			if i < 0 || i >= count {
				continue
			}
			root := rootOf("leaf", i, proof)
			if !digest.Verify(root, "leaf", i, proof) {
				t.Errorf("%d elements and the index %d are refused", n, i)
			}
			if digest.Verify(root, "other", i, proof) {
				t.Errorf("%d elements and the index %d are accepted with another string", n, i)
			}
		}
	}
}

// P3.5: the indexes whose last bits lead to the root, but that are too great or negative.
func TestVerifyRefusesIndexes(t *testing.T) {
	for n := range 41 {
		proof := digests(n)
		count := 1 << n
		for _, last := range []int{0, 1, count / 2, count - 1} {
			if last >= count {
				continue
			}
			root := rootOf("leaf", last, proof)
			for _, more := range []int{count, -count, 2 * count, 3 * count, -2 * count, 1 << 41, 1 << 62, -1 << 62, least} {
				if i := last + more; digest.Verify(root, "leaf", i, proof) {
					t.Errorf("%d elements and the index %d are accepted", n, i)
				}
			}
		}
		for _, i := range []int{-1, -2, -count, -count - 1, count, count + 1, least, most} {
			if digest.Verify(rootOf("leaf", i, proof), "leaf", i, proof) {
				t.Errorf("%d elements and the index %d are accepted", n, i)
			}
		}
	}
}

// P3.5
func TestVerifyRefusesLongProofs(t *testing.T) {
	for _, n := range []int{41, 42, 62, 63, 64, 65, 128, 1000} {
		proof := digests(n)
		for _, i := range []int{0, 1, 1 << 40, -1, least, most} {
			if digest.Verify(rootOf("leaf", i, proof), "leaf", i, proof) {
				t.Errorf("%d elements and the index %d are accepted", n, i)
			}
		}
	}
}

// readAs returns the proofs for which one with a malformed element k might be taken: with this element as it is, filled up or cut to 8 bytes, as zeros, and left out.
func readAs(proof []string, k int) [][]string {
	zeros := strings.Repeat("\x00", 8)
	s := proof[k]
	l := [][]string{proof, slices.Delete(slices.Clone(proof), k, k+1)}
	for _, other := range []string{zeros, (s + zeros)[:8], (zeros + s)[len(s):]} {
		with := slices.Clone(proof)
		with[k] = other
		l = append(l, with)
	}
	return l
}

// P3.5: elements of another number of bytes are refused, whatever the root is formed from.
func TestVerifyRefusesElements(t *testing.T) {
	for _, n := range []int{1, 2, 3, 8, 40} {
		for k := range n {
			proof := digests(n)
			s := proof[k]
			for _, other := range []string{"", s[:1], s[:4], s[:7], s[1:], s + "\x00", "\x00" + s, s + s} {
				proof[k] = other
				for _, as := range readAs(proof, k) {
					for _, i := range []int{0, 1, 1 << k, 1<<n - 1} {
						if digest.Verify(rootOf("leaf", i, as), "leaf", i, proof) {
							t.Errorf("% x is accepted as element %d of %d at the index %d", other, k, n, i)
						}
					}
				}
			}
		}
	}
}

// P3.5
func TestVerifyRefusesOtherRoots(t *testing.T) {
	for _, n := range []int{0, 1, 5, 40} {
		proof := digests(n)
		root := rootOf("leaf", 0, proof)
		for _, other := range others(root) {
			if digest.Verify(other, "leaf", 0, proof) {
				t.Errorf("%d elements: the root % x is accepted in place of % x", n, other, root)
			}
		}
	}
}

// P3.5: the byte before a string keeps it from passing for two digests, and these from passing for a string.
func TestVerifyRefusesNodesAsStrings(t *testing.T) {
	l := []string{"a", "b", "c", "d"}
	root := digest.Root(l)
	left, right := part(l, 0, 2), part(l, 2, 2)
	for _, s := range []string{left + right, "n" + left + right, "\x6c" + left + right} {
		if digest.Verify(root, s, 0, nil) {
			t.Errorf("% x is accepted as the only string", s)
		}
	}
	if digest.Verify(digest.Root(nil), "", 0, nil) || digest.Verify(digest.Root(nil), "v", 0, nil) {
		t.Error("a string is accepted for the empty list")
	}
}

// P3.7
func TestProofsAreAccepted(t *testing.T) {
	for _, l := range lists() {
		root := digest.Root(l)
		for i, s := range l {
			proof, ok := digest.Prove(l, i)
			if !ok || !digest.Verify(root, s, i, proof) {
				t.Errorf("the proof of string %d of %d is refused", i, len(l))
			}
		}
	}
}

// P3.7
func TestProofsOfOtherStringsAreRefused(t *testing.T) {
	for _, l := range lists() {
		root := digest.Root(l)
		for i, s := range l {
			proof, _ := digest.Prove(l, i)
			for _, other := range append([]string{"", "x", s + "x", "l" + s}, l...) {
				if other != s && digest.Verify(root, other, i, proof) {
					t.Errorf("%q is accepted as string %d of %d", other, i, len(l))
				}
			}
		}
	}
}

// P3.7
func TestProofsAtOtherIndexesAreRefused(t *testing.T) {
	for _, l := range lists() {
		root := digest.Root(l)
		for i, s := range l {
			proof, _ := digest.Prove(l, i)
			for k := -2; k <= 2*widthOf(len(l)); k++ {
				if k >= 0 && k < len(l) && l[k] == s {
					continue
				}
				if digest.Verify(root, s, k, proof) {
					t.Errorf("string %d of %d is accepted at %d", i, len(l), k)
				}
			}
		}
	}
}

// P3.7: a proof is of no use for another list, nor with an element changed, left out or added.
func TestChangedProofsAreRefused(t *testing.T) {
	l := strings.Fields("a b c d e f g h i j k l m")
	root := digest.Root(l)
	for i, s := range l {
		proof, _ := digest.Prove(l, i)
		for k := range proof {
			for _, other := range others(proof[k]) {
				changed := slices.Clone(proof)
				changed[k] = other
				if digest.Verify(root, s, i, changed) {
					t.Errorf("the proof of string %d is accepted with % x as element %d", i, other, k)
				}
			}
			if digest.Verify(root, s, i, slices.Delete(slices.Clone(proof), k, k+1)) {
				t.Errorf("the proof of string %d is accepted without element %d", i, k)
			}
		}
		if digest.Verify(root, s, i, append(slices.Clone(proof), root)) {
			t.Errorf("the proof of string %d is accepted with an element more", i)
		}
		if longer := append(slices.Clone(l), "n"); digest.Verify(digest.Root(longer), s, i, proof) {
			t.Errorf("the proof of string %d is accepted for a longer list", i)
		}
	}
}

// differences returns the number of elements that differ between two lists of one length.
func differences(a, b []string) int {
	n := 0
	for k := range a {
		if a[k] != b[k] {
			n++
		}
	}
	return n
}

// P3.8
func TestProofsInLongerLists(t *testing.T) {
	for _, all := range lists() {
		for n := range all {
			l, longer := all[:n], all[:n+1]
			for i := range l {
				before, _ := digest.Prove(l, i)
				after, _ := digest.Prove(longer, i)
				if widthOf(n) != widthOf(n+1) {
					if len(after) != len(before)+1 || differences(before, after) > 0 {
						t.Errorf("string %d: a tree twice as wide for %d strings changes the proof", i, n+1)
					}
				} else if len(after) != len(before) || differences(before, after) > 1 {
					t.Errorf("string %d: a list of %d strings changes more than one element", i, n+1)
				}
			}
		}
	}
}

// R1, R3, R4
func TestTreesKeepNothing(t *testing.T) {
	l := strings.Fields("a b c d e f g")
	first := slices.Clone(l)
	root := digest.Root(l[:5])
	proof, _ := digest.Prove(l[:5], 2)
	want := slices.Clone(proof)
	clear(append(proof, "x"))
	again, _ := digest.Prove(l[:5], 2)
	kept := slices.Clone(again)
	if !digest.Verify(root, "c", 2, again) || digest.Root(l[:5]) != root {
		t.Error("the results differ from call to call")
	}
	if !slices.Equal(l, first) || !slices.Equal(again, kept) {
		t.Errorf("the arguments have become %q and %x", l, again)
	}
	if !slices.Equal(again, want) {
		t.Errorf("Prove = %x and then %x", want, again)
	}
}

// P1, P3.5: whatever the arguments are, the calls end, and Verify accepts exactly what leads to the root.
func TestCallsAreTotal(t *testing.T) {
	r := rand.New(rand.NewPCG(34, 3))
	accepted := 0
	for range 20000 {
		proof := make([]string, r.IntN(5))
		fine := true
		for k := range proof {
			proof[k] = random(r, 8)
			if r.IntN(20) == 0 {
				proof[k] = random(r, r.IntN(10))
			}
			fine = fine && len(proof[k]) == 8
		}
		i := r.IntN(20) - 2
		if r.IntN(20) == 0 {
			i = int(r.Uint64()) >> r.IntN(64)
		}
		leaf := random(r, r.IntN(4))
		root := rootOf(leaf, i, proof)
		if r.IntN(4) == 0 {
			root = random(r, r.IntN(10))
			fine = fine && root == rootOf(leaf, i, proof)
		}
		want := fine && i >= 0 && i < 1<<len(proof)
		if got := digest.Verify(root, leaf, i, proof); got != want {
			t.Fatalf("Verify(% x, % x, %d, %x) = %v", root, leaf, i, proof, got)
		}
		if want {
			accepted++
		}
		digest.Prove(proof, i)
		digest.Check(leaf, root, random(r, r.IntN(10)))
	}
	if accepted < 1000 {
		t.Errorf("%d are accepted", accepted)
	}
}
