package machine_test

import (
	"slices"
	"testing"

	"indelible/api"
	"indelible/machine"
	"indelible/verify"
)

// checkFacts checks that a run on an outline keeps to the facts of its program, and returns the steps.
func checkFacts(t *testing.T, p program, o contours, size int, f api.Facts) int {
	t.Helper()
	got, steps, errno := machine.Run(p, o, size)
	if errno != api.OK || steps > f.Cost || len(got) != len(o) {
		t.Fatalf("Run(%v, %v, %d) = %v, %v, %v; the facts are %v", brief(p), o, size, got, steps, errno, f)
	}
	n := 0
	for i, c := range o {
		if len(got[i]) != len(c) {
			t.Fatalf("Run(%v, %v, %d) = %v", brief(p), o, size, got)
		}
		for k, q := range c {
			moved := got[i][k] != q
			if moved && !slices.Contains(f.Reach, n) || got[i][k].On != q.On {
				t.Errorf("Run(%v, %v, %d) = %v; the facts are %v", brief(p), o, size, got, f)
			}
			n++
		}
	}
	return steps
}

// P9.3: random programs that are verified.
func TestVerifiedPrograms(t *testing.T) {
	r := newSource(92)
	all, fewer := 0, 0
	for range 20000 {
		p, f := r.verified(t)
		for range 3 {
			if checkFacts(t, p, r.outline(8+r.IntN(3)), r.number(), f) == f.Cost {
				all++
			} else {
				fewer++
			}
		}
	}
	if all < 10000 || fewer < 3000 {
		t.Errorf("as many steps as the Cost: %d; fewer steps: %d", all, fewer)
	}
}

// P9.3: all programs of up to 5 of 12 operations that are verified for as many points.
func TestAllShortVerifiedPrograms(t *testing.T) {
	l := text(t, "push -70; size; sub; half; getx 1; gety 0; setx 0; sety 1; if 1; if 2; loop 2 1; loop 3 2")
	for _, o := range []contours{nil, single(200, -1), {{{X: 30, Y: 1}, {X: -90, On: true}}}} {
		points, verified := 0, 0
		for _, c := range o {
			points += len(c)
		}
		var all func(p program, more int)
		all = func(p program, more int) {
			if f, errno := verify.Check(p, points); errno == api.OK {
				verified++
				checkFacts(t, p, o, 0, f)
				checkFacts(t, p, o, 24, f)
			}
			if more > 0 {
				for _, op := range l {
					all(append(p, op), more-1)
				}
			}
		}
		all(make(program, 0, 5), 5)
		if verified == 0 || points > 0 && verified < 50 {
			t.Errorf("%d programs are verified for %d points", verified, points)
		}
	}
}

// P9.4: two programs that are verified.
func TestTwoPrograms(t *testing.T) {
	r := newSource(93)
	results := map[api.Errno]int{}
	for k := range 20000 {
		p, _ := r.verified(t)
		q, _ := r.verified(t)
		if k%8 == 0 { // with many steps
			p = inside(16, inside(14, text(t, "getx 1; push 1; add; half; setx 3")))
			q = inside(12+r.IntN(5), inside(16, text(t, "getx 3; push 1; add; setx 1")))
		}
		o, size := r.outline(8), r.number()
		between, first, errnoFirst := machine.Run(p, o, size)
		want, second, errnoSecond := machine.Run(q, between, size)
		if errnoFirst != api.OK || errnoSecond != api.OK {
			t.Fatalf("errors of %v and %v are %v and %v", brief(p), brief(q), errnoFirst, errnoSecond)
		}
		steps, errno := first+second, api.OK
		if steps > 2000 {
			want, steps, errno = nil, 0, api.ErrCost
		}
		checkRun(t, slices.Concat(p, q), o, size, want, steps, errno)
		results[errno]++
	}
	if results[api.OK] < 10000 || results[api.ErrCost] < 500 {
		t.Errorf("errors of Run: %v", results)
	}
}

// P9.4: a block that is carried out in rounds, and one that is written as often.
func TestRounds(t *testing.T) {
	r := newSource(94)
	results := map[api.Errno]int{}
	more := text(t, "size; setx 1; gety 2; add; neg; setx 8")
	for k := range 30000 {
		n, before := 1+r.IntN(16), text(t, "size; size; size; size")
		block := r.tame(0, 1, 1+r.IntN(30))
		if k%4 == 0 { // which leaves a number, takes some, or fails
			block = append(block, more[r.IntN(len(more))])
		}
		if k%3 == 0 {
			before = r.tame(0, 0, r.IntN(4))
		}
		o, size := r.outline(8), r.number()
		want, steps, errno := machine.Run(slices.Concat(before, slices.Repeat(block, n)), o, size)
		results[errno]++
		switch {
		case errno == api.OK && steps < 2000:
			steps++
		case errno == api.OK, errno == api.ErrCost:
			want, steps, errno = nil, 0, api.ErrCost
		}
		checkRun(t, append(before, inside(n, block)...), o, size, want, steps, errno)
	}
	if results[api.OK] < 10000 || results[api.ErrCost] < 500 || results[api.ErrDepth] < 500 || results[api.ErrTarget] < 500 {
		t.Errorf("errors of Run: %v", results)
	}
}

// P9.5
func TestProgramsWithoutSize(t *testing.T) {
	r := newSource(95)
	results := map[api.Errno]int{}
	for k := range 5000 {
		p := r.wild(r.IntN(10))
		if k%2 == 0 {
			p = r.tame(0, 0, r.IntN(30))
		}
		for i := range p {
			if p[i].Code == api.OpSize {
				p[i] = api.Op{Code: api.OpPush, N: r.number()}
			}
		}
		o := r.outline(8)
		want, steps, errno := machine.Run(p, o, 12)
		for _, size := range append([]int{-1, 0, 1, 6, 13, 24}, extremes...) {
			checkRun(t, p, o, size, want, steps, errno)
		}
		results[errno]++
	}
	if results[api.OK] < 1000 || results[api.ErrDepth] < 500 {
		t.Errorf("errors of Run: %v", results)
	}
}

// P9.6
func TestRounding(t *testing.T) {
	const most = 1 << 30
	p := program{{Code: api.OpGetX, N: 1}, {Code: api.OpRound}, {Code: api.OpSetX, N: 1}}
	checkRounding := func(x int) {
		t.Helper()
		o := contours{{{X: 7, Y: 8}}, {{X: x, Y: 9, On: true}, {X: 11, Y: 12}}}
		got, steps, errno := machine.Run(p, o, 12)
		if errno != api.OK || steps != 3 {
			t.Fatalf("rounding %d: %v, %v", x, steps, errno)
		}
		to := got[1][0].X
		if to%64 != 0 || to-x > 32 || x-to >= 32+1 {
			t.Errorf("%d becomes %d", x, to)
		}
		o[1][0].X = to
		checkRun(t, p, o, 12, o, 3, api.OK)
		if !equal(got, o) {
			t.Errorf("rounding makes %v of %v", got, o)
		}
	}
	for x := -400; x <= 400; x++ {
		checkRounding(x)
	}
	for n := range 100 {
		checkRounding(most - n)
		checkRounding(n - most)
	}
	r := newSource(96)
	for range 20000 {
		checkRounding(r.IntN(2*most+1) - most)
	}
}

// R3, R4: arguments stay as they are, even behind their ends; results have memory of their own, and come again.
func TestArgumentsAndResults(t *testing.T) {
	r := newSource(97)
	spareOp, spare := api.Op{Code: 77, N: 77, M: 77}, api.Point{X: 77, Y: 77}
	for range 5000 {
		p, _ := r.verified(t)
		o, size := r.outline(8), r.number()
		givenP := append(slices.Clone(p), spareOp, spareOp)
		givenO := append(copied(o), nil, []api.Point{spare})
		for i, c := range o {
			givenO[i] = append(slices.Clone(c), spare, spare)[:len(c)]
		}
		unchanged := func() bool {
			for i, c := range o {
				if !slices.Equal(givenO[i][:len(c)+2], append(slices.Clone(c), spare, spare)) {
					return false
				}
			}
			return slices.Equal(givenP, append(slices.Clone(p), spareOp, spareOp)) && givenO[len(o)] == nil && givenO[len(o)+1][0] == spare
		}
		want, steps, errno := machine.Run(p, o, size)
		got, stepsAgain, errnoAgain := machine.Run(givenP[:len(p)], givenO[:len(o)], size)
		if !unchanged() {
			t.Fatalf("Run(%v, %v, %d) changed its arguments", brief(p), o, size)
		}
		if !equal(got, want) || steps != stepsAgain || errno != errnoAgain {
			t.Fatalf("Run(%v, %v, %d) = %v, %v, %v, and then %v, %v, %v", brief(p), o, size, want, steps, errno, got, stepsAgain, errnoAgain)
		}
		for _, c := range got[:cap(got)] {
			for i := range c[:cap(c)] {
				c[:cap(c)][i] = spare
			}
		}
		if !unchanged() {
			t.Fatalf("the result of Run(%v, %v, %d) shares memory with its arguments", brief(p), o, size)
		}
		checkRun(t, p, o, size, want, steps, errno)
	}
}

// R1
func TestNilAndEmpty(t *testing.T) {
	for _, p := range []program{nil, {}, make(program, 0, 8)} {
		for _, o := range []contours{nil, {}, make(contours, 0, 8)} {
			checkRun(t, p, o, 12, nil, 0, api.OK)
		}
		for _, o := range []contours{{nil}, {{}}, {make([]api.Point, 0, 8)}} {
			checkRun(t, p, o, 12, contours{nil}, 0, api.OK)
		}
	}
}

// P1: any arguments.
func TestAnyArguments(t *testing.T) {
	r := newSource(98)
	for range 100000 {
		p := make(program, r.IntN(6))
		for i := range p {
			p[i] = api.Op{Code: r.field(), N: r.field(), M: r.field()}
			switch r.IntN(4) {
			case 0:
				p[i].Code = api.OpLoop
			case 1:
				p[i].Code, p[i].M = api.OpIf, 0
			}
		}
		checkModel(t, append(text(t, "size; size"), p...), r.outline(r.IntN(4)), r.number())
	}
}
