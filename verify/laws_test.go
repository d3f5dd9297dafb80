package verify_test

import (
	"math"
	"slices"
	"testing"

	"indelible/api"
	"indelible/verify"
)

// verified returns a program for 8 points that is verified, and its facts.
func (r source) verified(t *testing.T) (program, api.Facts) {
	t.Helper()
	for {
		p := r.tame(0, 0, r.IntN(10)*r.IntN(8))
		if r.IntN(3) == 0 { // with costs that are rare otherwise
			p = inside(1+r.IntN(16), inside(1+r.IntN(16), r.tame(0, 2, 1+r.IntN(6))))
		}
		f, errno := verify.Check(p, 8)
		switch errno {
		case api.OK:
			return p, f
		case api.ErrMany, api.ErrCost:
		default:
			t.Fatalf("Check(%v, 8) = %v", p, errno)
		}
	}
}

// P8.1: the cost is the number of steps if all blocks are carried out, and the height goes up to Depth then.
func TestFactsOfRuns(t *testing.T) {
	r := newSource(84)
	for range 5000 {
		p, f := r.verified(t)
		steps, height, top := 0, 0, 0
		reach := map[int]bool{}
		var run func(p program)
		run = func(p program) {
			for i := 0; i < len(p); i++ {
				op := p[i]
				height -= traits[op.Code].takes
				if height < 0 {
					t.Fatalf("the height in %v is %d", p, height)
				}
				height += traits[op.Code].puts
				steps, top = steps+1, max(top, height)
				switch op.Code {
				case api.OpSetX, api.OpSetY:
					reach[op.N] = true
				case api.OpIf:
					run(p[i+1 : i+1+op.N])
					i += op.N
				case api.OpLoop:
					for range op.N {
						run(p[i+1 : i+1+op.M])
					}
					i += op.M
				}
			}
		}
		run(p)
		if steps != f.Cost || top != f.Depth || height != 0 {
			t.Errorf("%v takes %d steps, and the height goes up to %d, and ends with %d; the facts are %v", p, steps, top, height, f)
		}
		if len(reach) != len(f.Reach) || !slices.IsSorted(f.Reach) || slices.ContainsFunc(f.Reach, func(n int) bool { return !reach[n] }) {
			t.Errorf("%v sets %v; the facts are %v", p, reach, f)
		}
	}
}

// union returns the numbers of both lists, increasing, each once.
func union(a, b []int) []int {
	l := slices.Concat(a, b)
	slices.Sort(l)
	return slices.Compact(l)
}

// P8.4
func TestConcatenations(t *testing.T) {
	r := newSource(85)
	results := map[api.Errno]int{}
	for range 20000 {
		p, f := r.verified(t)
		q, g := r.verified(t)
		want, wantErrno := api.Facts{Cost: f.Cost + g.Cost, Depth: max(f.Depth, g.Depth), Reach: union(f.Reach, g.Reach)}, api.OK
		if len(p)+len(q) > 64 {
			want, wantErrno = api.Facts{}, api.ErrMany
		} else if want.Cost > 2000 {
			want, wantErrno = api.Facts{}, api.ErrCost
		}
		checkFacts(t, join(p, q), 8, want, wantErrno)
		results[wantErrno]++
	}
	if results[api.OK] < 1000 || results[api.ErrMany] < 1000 || results[api.ErrCost] < 200 {
		t.Errorf("errors of Check: %v", results)
	}
	pair := program{size, setx(0)}
	checkOK(t, join(times(16, pair...), times(16, pair...)), 1, 64, 1, 0)
	checkError(t, join(times(16, pair...), times(16, pair...), program{loop(1, 1)}), 1, api.ErrMany)
	checkOK(t, join(expensive(5), times(5, pair...)), 1, 2000, 1, 0)
	checkError(t, join(expensive(6), times(5, pair...)), 1, api.ErrCost)
}

// has3 reports whether a verified program has an operation with 3 enclosing blocks.
func has3(p program) bool {
	var ends []int
	for i, op := range p {
		ends = slices.DeleteFunc(ends, func(end int) bool { return end == i })
		if len(ends) == 3 {
			return true
		}
		switch op.Code {
		case api.OpIf:
			ends = append(ends, i+1+op.N)
		case api.OpLoop:
			ends = append(ends, i+1+op.M)
		}
	}
	return false
}

// P8.5
func TestLoopsOfPrograms(t *testing.T) {
	r := newSource(86)
	results := map[api.Errno]int{}
	for range 20000 {
		p, f := r.verified(t)
		n := 1 + r.IntN(16)
		want, wantErrno := api.Facts{Cost: 1 + n*f.Cost, Depth: f.Depth, Reach: f.Reach}, api.OK
		switch {
		case len(p) > 63:
			wantErrno = api.ErrMany
		case len(p) == 0: // a block has at least one operation
			wantErrno = api.ErrForm
		case has3(p):
			wantErrno = api.ErrDepth
		case want.Cost > 2000:
			wantErrno = api.ErrCost
		}
		if wantErrno != api.OK {
			want = api.Facts{}
		}
		checkFacts(t, inside(n, p), 8, want, wantErrno)
		results[wantErrno]++
	}
	if results[api.OK] < 1000 || results[api.ErrDepth] < 100 || results[api.ErrCost] < 100 {
		t.Errorf("errors of Check: %v", results)
	}
}

// P8.6
func TestMoreAndFewerPoints(t *testing.T) {
	r := newSource(87)
	results := map[api.Errno]int{}
	for k := range 10000 {
		p, f := r.verified(t)
		used := 0
		for _, op := range p {
			if traits[op.Code].point {
				used = max(used, op.N+1)
			}
		}
		for _, points := range append([]int{-1, 0, 1, 2, 3, 4, 5, 6, 7, 8, 9, 63, 64, 65}, extremes...) {
			if points >= used || used == 0 {
				checkFacts(t, p, points, f, api.OK)
			} else {
				checkFacts(t, p, points, api.Facts{}, api.ErrTarget)
			}
		}
		// What is wrong for other reasons stays so, or has a point that is missing before that.
		if k%2 == 0 {
			p = r.spoilt(p)
		} else {
			p = append(p, r.wild())
		}
		_, last := verify.Check(p, math.MaxInt)
		results[last]++
		for points := 12; points >= -1; points-- {
			_, errno := verify.Check(p, points)
			if errno != last && errno != api.ErrTarget {
				t.Errorf("Check(%v, %d) = %v; %v with more points", p, points, errno, last)
			}
			last = errno
		}
	}
	if results[api.OK] < 1000 || results[api.ErrForm] < 1000 || results[api.ErrDepth] < 1000 {
		t.Errorf("errors of Check: %v", results)
	}
}

// R3, R4, P1: arguments stay as they are, even behind their ends; results have memory of their own, and come again.
func TestArgumentsAndResults(t *testing.T) {
	r := newSource(88)
	spare := loop(77, 77)
	for range 5000 {
		p, f := r.verified(t)
		given := append(slices.Clone(p), spare, spare)
		facts, errno := verify.Check(given[:len(p)], 8)
		s := verify.Text(given[:len(p)])
		parsed, ok := verify.Parse(s)
		if !slices.Equal(given, append(slices.Clone(p), spare, spare)) {
			t.Fatalf("the argument %v became %v", p, given)
		}
		if errno != api.OK || !equal(facts, f) || !ok || !slices.Equal(parsed, p) {
			t.Fatalf("the second results for %v are %v, %v, %v, %v", p, facts, errno, parsed, ok)
		}
		reach := facts.Reach[:cap(facts.Reach)]
		for i := range reach {
			reach[i] = -99
		}
		for i := range parsed[:cap(parsed)] {
			parsed[:cap(parsed)][i] = spare
		}
		again, errno := verify.Check(given[:len(p)], 8)
		parsedAgain, ok := verify.Parse(s)
		if errno != api.OK || !equal(again, f) || !ok || !slices.Equal(parsedAgain, p) || verify.Text(given[:len(p)]) != s {
			t.Fatalf("the third results for %v are %v, %v, %v, %v", p, again, errno, parsedAgain, ok)
		}
	}
}

// R1
func TestNilAndEmpty(t *testing.T) {
	for _, p := range []program{nil, {}, make(program, 0, 8)} {
		for _, points := range append([]int{-1, 0, 1}, extremes...) {
			checkOK(t, p, points, 0, 0)
		}
		checkText(t, p, "")
	}
	checkParse(t, "", nil, true)
}

// P1: any arguments.
func TestAnyArguments(t *testing.T) {
	r := newSource(89)
	for range 100000 {
		p := make(program, r.IntN(6))
		for i := range p {
			p[i] = api.Op{Code: r.field(), N: r.field(), M: r.field()}
			if r.IntN(2) == 0 {
				p[i].Code = 14 + r.IntN(2)
			}
		}
		checkModel(t, p, r.field())
		checkText(t, p, written(p))
		b := make([]byte, r.IntN(12))
		for i := range b {
			b[i] = byte(r.IntN(256))
		}
		want, ok := read(string(b))
		checkParse(t, string(b), want, ok)
	}
}
