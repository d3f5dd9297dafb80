package wire

// Reader reads serialized values one after the other.
type Reader struct {
	// rest is what follows the position; it is empty if the reader is bad.
	rest string
	bad  bool
}

// New returns a reader at the beginning of a string.
func New(s string) *Reader { return &Reader{rest: s} }

// Int reads an integer.
func (r *Reader) Int() int {
	var code uint64
	for k := range min(r.Left(), longest) {
		b := r.rest[k]
		group, place := uint64(b%more), k*groupBits
		if group<<place>>place != group { // a code has 64 bits
			goto malformed
		}
		code |= group << place
		if b >= more {
			continue
		}
		if b == 0 && k > 0 { // there are fewer bytes in the serialization of this code
			goto malformed
		}
		r.rest = r.rest[k+1:]
		return number(code)
	}
malformed:
	r.fail()
	return 0
}

// Text reads a string.
func (r *Reader) Text() string {
	var s string
	n := r.Int()
	if r.Bad() || n < 0 || n > r.Left() {
		goto malformed
	}
	s, r.rest = r.rest[:n], r.rest[n:]
	return s
malformed:
	r.fail()
	return ""
}

// Ints reads a list of integers.
func (r *Reader) Ints() []int { return elements(r, r.Int) }

// Texts reads a list of strings.
func (r *Reader) Texts() []string { return elements(r, r.Text) }

// Left returns the number of bytes that are left.
func (r *Reader) Left() int {
	if r == nil {
		return 0
	}
	return len(r.rest)
}

// Bad reports whether something could not be read.
func (r *Reader) Bad() bool { return r == nil || r.bad }

// fail makes the reader bad, and drops what it has not read: nothing will be read any more.
func (r *Reader) fail() {
	if r != nil {
		*r = Reader{bad: true}
	}
}

// elements reads a list whose elements are read by element, which is a method of r.
func elements[T any](r *Reader, element func() T) []T {
	var l []T
	n := r.Int()
	if n < 0 || n > r.Left() { // an element has at least one byte
		goto malformed
	}
	// The list grows with what is read, lest a number that is not followed by as many elements take memory.
	for range n {
		l = append(l, element())
		if r.Bad() {
			goto malformed
		}
	}
	return l
malformed:
	r.fail()
	return nil
}
