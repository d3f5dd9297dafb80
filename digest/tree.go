package digest

// longest is the number of elements of the longest proofs that are accepted.
const longest = 40

// Root returns the root of the tree of a list of strings.
func Root(l []string) string {
	var root digest
	for level := range levels(l) {
		root = level[0]
	}
	return root.text()
}

// Prove returns the proof of the string with an index.
func Prove(l []string, i int) ([]string, bool) {
	if i < 0 || i >= len(l) {
		return nil, false
	}
	var proof []string
	for level := range levels(l) {
		if len(level) > 1 {
			proof = append(proof, level[i^1].text())
		}
		i /= 2
	}
	return proof, true
}

// Verify reports whether a proof leads from a string with an index to a root.
func Verify(root, leaf string, i int, proof []string) bool {
	// A shift by all levels leaves something of each index that is too great, and of each negative one.
	if len(proof) > longest || i>>len(proof) != 0 {
		return false
	}
	d := leafOf(leaf)
	for _, s := range proof {
		neighbour, ok := parse(s)
		if !ok {
			return false
		}
		if i%2 == 0 {
			d = nodeOf(d, neighbour)
		} else {
			d = nodeOf(neighbour, d)
		}
		i /= 2
	}
	given, ok := parse(root)
	return ok && given == d
}

// levels visits the levels of the tree of a list, from the lowest one to that of the root.
func levels(l []string) func(yield func(level []digest) bool) {
	return func(yield func(level []digest) bool) {
		level := lowest(l)
		for yield(level) && len(level) > 1 {
			level = above(level)
		}
	}
}

// lowest returns level 0 of the tree of a list.
func lowest(l []string) []digest {
	width := 1
	for width < len(l) {
		width *= 2
	}
	level := make([]digest, width)
	for k := range level {
		if k < len(l) {
			level[k] = leafOf(l[k])
		} else {
			level[k] = of(restByte)
		}
	}
	return level
}

// above returns the level above another one, which has two digests at least.
func above(level []digest) []digest {
	next := make([]digest, len(level)/2)
	for k := range next {
		next[k] = nodeOf(level[2*k], level[2*k+1])
	}
	return next
}

func leafOf(s string) digest { return of(leafByte, s) }

func nodeOf(first, second digest) digest { return of(nodeByte, first.text(), second.text()) }
