package machine_test

import (
	"fmt"
	"math"
	"math/rand/v2"
	"slices"
	"testing"

	"indelible/api"
	"indelible/machine"
	"indelible/verify"
)

type (
	program  = []api.Op
	contours = [][]api.Point
)

// text returns the program with a text.
func text(t *testing.T, s string) program {
	t.Helper()
	p, ok := verify.Parse(s)
	if !ok {
		t.Fatalf("%q is not the text of a program", s)
	}
	return p
}

// inside returns a Loop with its block.
func inside(n int, block program) program {
	return append(program{{Code: api.OpLoop, N: n, M: len(block)}}, block...)
}

// triangle is the outline of the document's examples.
func triangle() contours {
	return contours{{{X: 10, Y: 0, On: true}, {X: 100, Y: 50}, {X: -31, Y: 7, On: true}}}
}

// single returns an outline of one point.
func single(x, y int) contours { return contours{{{X: x, Y: y, On: true}}} }

// copied returns an outline of its own with the same points.
func copied(o contours) contours {
	l := make(contours, len(o))
	for i, c := range o {
		l[i] = append(l[i], c...)
	}
	return l
}

// equal compares outlines, nil and empty being the same.
func equal(a, b contours) bool {
	return slices.EqualFunc(a, b, func(c, d []api.Point) bool { return slices.Equal(c, d) })
}

// shape says of a Code which fields it uses, the numbers that it takes and puts, and whether N is a point.
type shape struct {
	fields, takes, puts int
	point               bool
}

// shapes is the document's table.
var shapes = [16]shape{
	1: {1, 0, 1, false}, 2: {0, 2, 1, false}, 3: {0, 2, 1, false}, 4: {0, 2, 1, false}, 5: {0, 2, 1, false},
	6: {0, 1, 1, false}, 7: {0, 1, 1, false}, 8: {0, 1, 1, false}, 9: {0, 0, 1, false}, 10: {1, 0, 1, true},
	11: {1, 0, 1, true}, 12: {1, 1, 0, true}, 13: {1, 1, 0, true}, 14: {1, 1, 0, false}, 15: {2, 0, 0, false},
}

// model is a run as the document describes it. It goes from operation to operation, with a list of the blocks in which it stands, the innermost one last.
type model struct {
	p      program
	o      contours
	size   int
	next   int
	steps  int
	stack  []int
	blocks []open
}

// open is a block: the index of its first operation, that of the operation after it, and how many rounds follow this one.
type open struct{ begin, end, more int }

// ran returns what Run promises.
func ran(p program, o contours, size int) (contours, int, api.Errno) {
	m := model{p: p, o: copied(o), size: size}
	for {
		for len(m.blocks) > 0 && m.blocks[len(m.blocks)-1].end == m.next {
			b := &m.blocks[len(m.blocks)-1]
			if b.more > 0 {
				b.more--
				m.next = b.begin
			} else {
				m.blocks = m.blocks[:len(m.blocks)-1]
			}
		}
		if m.next == len(p) {
			return m.o, m.steps, api.OK
		}
		if errno := m.wrong(); errno != api.OK {
			return nil, 0, errno
		}
		m.step()
	}
}

// wrong returns the first error of the next operation.
func (m *model) wrong() api.Errno {
	op, end := m.p[m.next], len(m.p)
	if len(m.blocks) > 0 {
		end = m.blocks[len(m.blocks)-1].end
	}
	if m.steps == 2000 {
		return api.ErrCost
	}
	if op.Code < 1 || op.Code > 15 {
		return api.ErrForm
	}
	x := shapes[op.Code]
	length := map[int]int{14: op.N, 15: op.M}[op.Code]
	switch {
	case x.fields < 1 && op.N != 0, x.fields < 2 && op.M != 0:
		return api.ErrForm
	case op.Code == 15 && (op.N < 1 || op.N > 16):
		return api.ErrForm
	case op.Code >= 14 && (length < 1 || length > end-m.next-1):
		return api.ErrForm
	case op.Code >= 14 && len(m.blocks) == 3:
		return api.ErrDepth
	case len(m.stack) < x.takes, len(m.stack)-x.takes+x.puts > 8:
		return api.ErrDepth
	case x.point && (op.N < 0 || m.at(op.N) == nil):
		return api.ErrTarget
	}
	return api.OK
}

// at returns the point with a number, or nil.
func (m *model) at(n int) *api.Point {
	for _, c := range m.o {
		if n < len(c) {
			return &c[n]
		}
		n -= len(c)
	}
	return nil
}

func (m *model) put(n int) {
	switch {
	case n > 1<<30:
		n = 1 << 30
	case n < -1<<30:
		n = -1 << 30
	}
	m.stack = append(m.stack, n)
}

func (m *model) take() int {
	n := m.stack[len(m.stack)-1]
	m.stack = m.stack[:len(m.stack)-1]
	return n
}

// two carries out an operation of two numbers.
func (m *model) two(of func(a, b int) int) {
	b := m.take()
	a := m.take()
	m.put(of(a, b))
}

// step carries out the next operation, which has no error.
func (m *model) step() {
	op := m.p[m.next]
	m.next++
	m.steps++
	switch op.Code {
	case 1:
		m.put(op.N)
	case 2:
		m.two(func(a, b int) int { return a + b })
	case 3:
		m.two(func(a, b int) int { return a - b })
	case 4:
		m.two(func(a, b int) int { return slices.Min([]int{a, b}) })
	case 5:
		m.two(func(a, b int) int { return slices.Max([]int{a, b}) })
	case 6:
		m.put(-m.take())
	case 7: // floats are exact for numbers like these
		m.put(int(math.Floor(float64(m.take()) / 2)))
	case 8:
		m.put(64 * int(math.Floor(float64(m.take())/64+0.5)))
	case 9:
		m.put(m.size)
	case 10:
		m.put(m.at(op.N).X)
	case 11:
		m.put(m.at(op.N).Y)
	case 12:
		m.at(op.N).X = m.take()
	case 13:
		m.at(op.N).Y = m.take()
	case 14:
		if m.take() > 0 {
			m.blocks = append(m.blocks, open{m.next, m.next + op.N, 0})
		} else {
			m.next += op.N
		}
	case 15:
		m.blocks = append(m.blocks, open{m.next, m.next + op.M, op.N - 1})
	}
}

// brief returns the beginning of a program, for messages.
func brief(p program) string {
	s := fmt.Sprint(p)
	if len(s) > 300 {
		return s[:300] + ".."
	}
	return s
}

func checkRun(t *testing.T, p program, o contours, size int, want contours, wantSteps int, wantErrno api.Errno) {
	t.Helper()
	before := copied(o)
	got, steps, errno := machine.Run(p, o, size)
	if !equal(got, want) || steps != wantSteps || errno != wantErrno {
		t.Errorf("Run(%v, %v, %d) = %v, %v, %v; want %v, %v, %v", brief(p), o, size, got, steps, errno, want, wantSteps, wantErrno)
	}
	if !equal(o, before) {
		t.Errorf("Run(%v, ..) made %v of %v", brief(p), o, before)
	}
}

// checkModel compares a run with what Run promises, and returns the error.
func checkModel(t *testing.T, p program, o contours, size int) api.Errno {
	t.Helper()
	want, steps, errno := ran(p, o, size)
	checkRun(t, p, o, size, want, steps, errno)
	return errno
}

// checkError checks that a program fails on the outline of the examples.
func checkError(t *testing.T, p program, want api.Errno) {
	t.Helper()
	checkRun(t, p, triangle(), 12, nil, 0, want)
	checkModel(t, p, triangle(), 12)
}

// checkSteps checks that a program takes so many steps on the outline of the examples.
func checkSteps(t *testing.T, p program, want int) {
	t.Helper()
	if _, steps, errno := machine.Run(p, triangle(), 12); steps != want || errno != api.OK {
		t.Errorf("Run(%v, ..) = .., %v, %v; want %v steps", brief(p), steps, errno, want)
	}
	checkModel(t, p, triangle(), 12)
}

// checkNumber checks that a program leaves a number as the last one on the stack.
func checkNumber(t *testing.T, p program, size, want int) {
	t.Helper()
	p = append(slices.Clone(p), api.Op{Code: api.OpSetY})
	checkRun(t, p, single(5, 6), size, single(5, want), len(p), api.OK)
	checkModel(t, p, single(5, 6), size)
}

// extremes are integers far beyond all limits.
var extremes = []int{math.MinInt, math.MinInt + 1, math.MinInt / 2, -1 << 33, -1<<30 - 1, -1 << 30, 1 << 30, 1<<30 + 1, 1 << 33, math.MaxInt / 2, math.MaxInt - 1, math.MaxInt}

// source makes arguments, always the same ones for a seed.
type source struct{ *rand.Rand }

func newSource(seed uint64) source { return source{rand.New(rand.NewPCG(seed, 9))} }

// number returns a coordinate, a size, or a number that is pushed: small ones, and those that are limited.
func (r source) number() int {
	switch r.IntN(8) {
	case 0:
		return extremes[r.IntN(len(extremes))]
	case 1:
		return r.IntN(1<<31+1) - 1<<30
	case 2:
		return 32 * (r.IntN(9) - 4)
	}
	return r.IntN(1025) - 512
}

// field returns a length, a number of rounds, or the number of a point, which now and then is none.
func (r source) field() int {
	if r.IntN(32) == 0 {
		return extremes[r.IntN(len(extremes))]
	}
	return r.IntN(9) - 1
}

// outline returns contours with so many points in all, among them empty ones.
func (r source) outline(points int) contours {
	o := make(contours, 1+r.IntN(4))
	for range points {
		k := r.IntN(len(o))
		o[k] = append(o[k], api.Point{X: r.number(), Y: r.number(), On: r.IntN(2) == 0})
	}
	return o
}

// wild returns operations with any Codes and fields.
func (r source) wild(length int) program {
	p := make(program, length)
	for i := range p {
		p[i].Code = 1 + r.IntN(15)
		if r.IntN(200) == 0 {
			p[i].Code = r.field()
		}
		if p[i].Code < 1 || p[i].Code > 15 {
			continue
		}
		if x := shapes[p[i].Code]; x.fields > 0 || r.IntN(100) == 0 {
			p[i].N = r.field()
		}
		if shapes[p[i].Code].fields > 1 || r.IntN(100) == 0 {
			p[i].M = r.field()
		}
		if p[i].Code == api.OpPush {
			p[i].N = r.number()
		}
	}
	return p
}

// tame returns operations for 8 points and a height, which make no error in so many enclosing blocks unless they take too many steps, and leave the height as it is.
func (r source) tame(height, enclosing, length int) program {
	var p program
	now := height
	for len(p) < length {
		op := api.Op{Code: 1 + r.IntN(15)}
		x := shapes[op.Code]
		if now < x.takes || now-x.takes+x.puts > 8 || op.Code >= 14 && enclosing == 3 {
			continue
		}
		now += x.puts - x.takes
		var block program
		switch {
		case op.Code >= 14:
			block = r.tame(now, enclosing+1, 1+r.IntN(4))
			op.N = len(block)
			if op.Code == 15 {
				op.N, op.M = 1+r.IntN(r.IntN(16)+1), len(block)
			}
		case op.Code == api.OpPush:
			op.N = r.number()
		case x.point:
			op.N = r.IntN(8)
		}
		p = append(append(p, op), block...)
	}
	for ; now > height; now-- {
		p = append(p, api.Op{Code: 12 + r.IntN(2), N: r.IntN(8)})
	}
	for ; now < height; now++ {
		p = append(p, api.Op{Code: 10 + r.IntN(2), N: r.IntN(8)})
	}
	return p
}

// verified returns a program that is verified for 8 points, and its facts.
func (r source) verified(t *testing.T) (program, api.Facts) {
	t.Helper()
	for {
		p := r.tame(0, 0, r.IntN(24))
		f, errno := verify.Check(p, 8)
		if errno == api.OK {
			return p, f
		}
		if errno != api.ErrMany && errno != api.ErrCost {
			t.Fatalf("Check(%v, 8) = %v", p, errno)
		}
	}
}
