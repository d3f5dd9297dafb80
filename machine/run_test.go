package machine_test

import (
	"math"
	"slices"
	"testing"

	"indelible/api"
)

// P9.1, P9.2: the document's examples.
func TestExamples(t *testing.T) {
	o := triangle()
	o[0][1].X = 128
	checkRun(t, text(t, "getx 1; round; setx 1"), triangle(), 12, o, 3, api.OK)
	o = triangle()
	o[0][0].Y = 7
	p := text(t, "size; push 10; sub; if 2; push 7; sety 0")
	checkRun(t, p, triangle(), 12, o, 6, api.OK)
	checkRun(t, p, triangle(), 10, triangle(), 4, api.OK)
	o = triangle()
	o[0][2].X = -37
	checkRun(t, text(t, "loop 3 4; getx 2; push 2; sub; setx 2"), triangle(), 12, o, 13, api.OK)
	checkError(t, text(t, "add"), api.ErrDepth)
	checkError(t, text(t, "getx 3"), api.ErrTarget)
	checkError(t, program{{Code: api.OpPush, N: 1, M: 1}}, api.ErrForm)
	checkError(t, text(t, "if 2; push 1"), api.ErrForm)
}

// P9.1: no operations, no contours, and contours without points.
func TestEmptyArguments(t *testing.T) {
	for _, o := range []contours{nil, {}, {nil}, {{}, nil, {}}, triangle(), single(math.MinInt, math.MaxInt)} {
		for _, p := range []program{nil, {}} {
			checkRun(t, p, o, 12, o, 0, api.OK)
		}
	}
	for _, o := range []contours{nil, {}, {nil}, {{}, nil, {}}} {
		checkRun(t, text(t, "push 1; size; add; if 1; size"), o, 12, o, 5, api.OK)
		for _, s := range []string{"getx 0", "gety 0", "size; setx 0", "size; sety 0", "getx -1"} {
			checkRun(t, text(t, s), o, 12, nil, 0, api.ErrTarget)
		}
	}
}

// P9.1: the points are counted through all contours, and only their X and Y change.
func TestPointsOfContours(t *testing.T) {
	at := func(n int) api.Point { return api.Point{X: 10 * n, Y: -n, On: n%2 == 0} }
	o := contours{nil, {at(0), at(1)}, {at(2)}, {}, {at(3), at(4), at(5)}, nil}
	for n := range 6 {
		op := func(code int) api.Op { return api.Op{Code: code, N: n} }
		want := copied(o)
		for _, c := range want {
			for i := range c {
				if c[i].X == 10*n {
					c[i].X, c[i].Y = 10*n+1, -n-3
				}
			}
		}
		p := program{op(api.OpGetX), {Code: api.OpPush, N: 1}, {Code: api.OpAdd}, op(api.OpSetX), op(api.OpGetY), {Code: api.OpPush, N: 3}, {Code: api.OpSub}, op(api.OpSetY)}
		checkRun(t, p, o, 12, want, 8, api.OK)
	}
	// Contours that share memory are two of them.
	c := []api.Point{at(1), at(2)}
	checkRun(t, text(t, "push 7; setx 2"), contours{c, c[:1], c}, 12, contours{c, {{X: 7, Y: -1}}, c}, 2, api.OK)
	for _, s := range []string{"getx 6", "gety 6", "size; setx 6", "size; sety 6", "gety -1", "size; sety -1"} {
		checkRun(t, text(t, s), o, 12, nil, 0, api.ErrTarget)
	}
}

// P9.1: what each operation puts onto the stack.
func TestNumbers(t *testing.T) {
	for s, want := range map[string]int{
		"push 0": 0, "push 7": 7, "push -7": -7,
		"push 9; push 4; add": 13, "push 9; push -14; add": -5, "push 9; push 4; sub": 5, "push 4; push 9; sub": -5,
		"push 9; push 4; min": 4, "push 4; push 9; min": 4, "push -9; push -4; min": -9, "push 4; push 4; min": 4,
		"push 9; push 4; max": 9, "push 4; push 9; max": 9, "push -9; push -4; max": -4, "push 4; push 4; max": 4,
		"push 9; neg": -9, "push -9; neg": 9, "push 0; neg": 0,
		"push 8; half": 4, "push 9; half": 4, "push 1; half": 0, "push 0; half": 0, "push -1; half": -1, "push -2; half": -1, "push -9; half": -5,
		"push 0; round": 0, "push 31; round": 0, "push 32; round": 64, "push 33; round": 64, "push 64; round": 64, "push 95; round": 64, "push 96; round": 128,
		"push -31; round": 0, "push -32; round": 0, "push -33; round": -64, "push -64; round": -64, "push -95; round": -64, "push -96; round": -64, "push -97; round": -128,
		"size": 12, "getx 0": 5, "gety 0": 6,
		// The numbers below stay as they are.
		"push 1; push 2; push 3; push 4; sub; add; add": 2, "push 50; push 3; neg; half; add": 48, "size; size; size; min; sub": 0,
	} {
		checkNumber(t, text(t, s), 12, want)
	}
	checkRun(t, text(t, "push 8; push 100; setx 0; sety 0"), single(5, 6), 12, single(100, 8), 4, api.OK)
	checkRun(t, text(t, "getx 0; push 7; setx 0; getx 0; sub; sety 0"), single(5, 6), 12, single(7, -2), 6, api.OK)
	for n := -200; n <= 200; n++ {
		push := program{{Code: api.OpPush, N: n}}
		checkNumber(t, push, 12, n)
		checkModel(t, append(text(t, "size; half; size; round"), append(push, text(t, "half; setx 0")...)...), single(1, 2), n)
		checkModel(t, append(push, text(t, "round; setx 0; getx 0; neg; half; sety 0")...), single(1, 2), n)
	}
}

// P9.1: all numbers that come onto the stack are limited, on both sides.
func TestLimitedNumbers(t *testing.T) {
	const most = 1 << 30
	for _, n := range []int{most - 1, most, most + 1, most + 2, 1 << 40, math.MaxInt - 1, math.MaxInt} {
		want := min(n, most)
		checkNumber(t, program{{Code: api.OpPush, N: n}}, 12, want)
		checkNumber(t, program{{Code: api.OpPush, N: -n}}, 12, -want)
		checkNumber(t, text(t, "size"), n, want)
		checkNumber(t, text(t, "size"), -n, -want)
		for _, s := range []string{"getx 0; sety 0", "gety 0; setx 0"} {
			checkModel(t, text(t, s), single(n, -n), 12)
			checkModel(t, text(t, s), single(-n, n), 12)
		}
		checkRun(t, text(t, "getx 0; setx 0"), single(n, -n), 12, single(want, -n), 2, api.OK)
		checkRun(t, text(t, "gety 0; sety 0"), single(n, -n), 12, single(n, -want), 2, api.OK)
		checkRun(t, text(t, "getx 0; setx 0"), single(-n, n), 12, single(-want, n), 2, api.OK)
		checkRun(t, text(t, "gety 0; sety 0"), single(-n, n), 12, single(-n, want), 2, api.OK)
	}
	for s, want := range map[string]int{
		"push 1073741824; push 1; add": most, "push 1073741823; push 1; add": most, "push 1073741824; push 1073741824; add": most,
		"push -1073741824; push -1; add": -most, "push -1073741823; push 2; sub": -most, "push -1073741824; push 1073741824; sub": -most,
		"push 1073741824; push -1; sub": most, "push 1073741824; push -1; add": most - 1,
		// Each result is limited by itself.
		"push 1073741824; push 1073741824; add; push 1073741824; sub": 0, "push -9223372036854775808; push 1; add": 1 - most,
		"push 9223372036854775807; push 9223372036854775807; add; half": most / 2, "push -9223372036854775808; neg": most,
		"push -9223372036854775808; half": -most / 2, "push 9223372036854775807; round": most, "push -9223372036854775808; round": -most,
		"push 1073741823; round": most, "push 1073741791; round": most - 64, "push -1073741823; round": -most,
		"push -9223372036854775808; push 9223372036854775807; sub": -most, "push 9223372036854775807; push -9223372036854775808; sub": most,
		"push -9223372036854775808; push -1073741824; max; push 1073741824; add": 0, "push 9223372036854775807; push 2000000000; min": most,
	} {
		checkNumber(t, text(t, s), 12, want)
	}
	// The numbers are limited before an If takes them, too, but that makes no difference.
	for _, n := range []int{math.MinInt, -1, 0} {
		checkSteps(t, program{{Code: api.OpPush, N: n}, {Code: api.OpIf, N: 1}, {Code: api.OpSize}}, 2)
	}
	for _, n := range []int{1, 2, math.MaxInt} {
		checkSteps(t, program{{Code: api.OpPush, N: n}, {Code: api.OpIf, N: 1}, {Code: api.OpSize}}, 3)
	}
}

// P9.1: any size.
func TestSizes(t *testing.T) {
	for _, n := range append([]int{-2, -1, 0, 1, 6, 24, 25}, extremes...) {
		limited := max(min(n, 1<<30), -1<<30)
		checkNumber(t, text(t, "size"), n, limited)
		p := text(t, "size; if 2; push 8; setx 0")
		if n > 0 {
			checkRun(t, p, single(5, 6), n, single(8, 6), 4, api.OK)
		} else {
			checkRun(t, p, single(5, 6), n, single(5, 6), 2, api.OK)
		}
	}
}

// P9.1: an If whose number is 0, below, or above it.
func TestIf(t *testing.T) {
	for _, n := range append([]int{-2, -1, 0, 1, 2}, extremes...) {
		p := append(program{{Code: api.OpPush, N: n}}, text(t, "if 2; push 8; setx 0; push 9; sety 0")...)
		if n > 0 {
			checkRun(t, p, single(1, 2), 12, single(8, 9), 6, api.OK)
		} else {
			checkRun(t, p, single(1, 2), 12, single(1, 9), 4, api.OK)
		}
	}
	// What is left out may be the rest of the program, or of the block.
	checkSteps(t, text(t, "push 0; if 3; size; size; size"), 2)
	checkSteps(t, text(t, "loop 2 5; push 0; if 3; size; size; size; size"), 1+2*2+1)
	checkSteps(t, text(t, "push 1; if 5; push 0; if 3; size; size; size; size"), 2+2+1)
}

// P9.1: nested blocks, and blocks that end together.
func TestBlocks(t *testing.T) {
	for s, want := range map[string]int{
		"loop 1 1; push 1":                                                         2,
		"loop 16 2; push 1; setx 0":                                                33,
		"push 5; loop 16 1; half":                                                  18,
		"loop 2 3; loop 3 2; push 1; setx 0":                                       1 + 2*(1+3*2),
		"loop 2 4; loop 3 3; loop 4 2; push 1; setx 0":                             1 + 2*(1+3*(1+4*2)),
		"loop 2 4; loop 3 3; loop 4 2; push 1; setx 0; push 2; setx 1":             1 + 2*(1+3*(1+4*2)) + 2,
		"loop 2 6; loop 3 3; loop 4 2; push 1; setx 0; push 2; setx 1":             1 + 2*(1+3*(1+4*2)+2),
		"loop 2 6; loop 3 5; loop 4 2; push 1; setx 0; push 2; setx 1":             1 + 2*(1+3*(1+4*2+2)),
		"push 1; if 4; loop 3 3; push 1; if 1; push 2; loop 2 1; size":             2 + 1 + 3*3 + 1 + 2,
		"push 1; if 5; push 1; if 3; push 1; if 1; push 2; size":                   8,
		"push 1; if 5; push 1; if 3; push 0; if 1; push 2; size":                   7,
		"push 1; if 5; push 0; if 3; push 1; if 1; push 2; size":                   5,
		"push 0; if 5; push 1; if 3; push 1; if 1; push 2; size":                   3,
		"loop 2 3; loop 3 2; push 0; if 1; size":                                   -1,
		"loop 2 4; loop 3 3; push 0; if 1; size":                                   1 + 2*(1+3*2),
		"loop 3 9; push 1; if 2; push 1; setx 0; push -1; if 2; push 1; setx 0":    -1,
		"loop 3 8; push 1; if 2; push 1; setx 0; push -1; if 2; push 1; setx 0":    1 + 3*6,
		"loop 1 1; loop 1 1; push 1":                                               -1,
		"loop 1 2; loop 1 1; push 1; loop 1 2; loop 1 1; push 1":                   6,
		"loop 1 3; loop 1 2; loop 1 1; push 1; loop 1 3; loop 1 2; loop 1 1; size": 8,
	} {
		if want < 0 {
			checkError(t, text(t, s), api.ErrForm)
		} else {
			checkSteps(t, text(t, s), want)
		}
	}
	// The number of rounds does not change while they are carried out.
	checkRun(t, text(t, "loop 7 4; getx 0; push 1; add; setx 0"), single(0, 3), 12, single(7, 3), 29, api.OK)
	checkRun(t, text(t, "loop 3 10; getx 0; push 3; sub; if 2; push 50; sety 0; getx 0; push 2; add; setx 0"), single(0, 3), 12, single(6, 50), 1+8+8+10, api.OK)
	for n := 1; n <= 16; n++ {
		p := append(program{{Code: api.OpLoop, N: n, M: 4}}, text(t, "getx 0; push 1; add; setx 0")...)
		checkRun(t, p, single(-5, 3), 12, single(n-5, 3), 1+4*n, api.OK)
	}
}

// P9.1: numbers that are left on the stack play no part.
func TestNumbersThatAreLeft(t *testing.T) {
	for n := range 9 {
		p := slices.Repeat(text(t, "size"), n)
		checkRun(t, p, triangle(), 12, triangle(), n, api.OK)
		checkModel(t, append(p, text(t, "push 5; setx 1")...), triangle(), 12)
	}
	checkRun(t, text(t, "loop 8 1; size"), triangle(), 12, triangle(), 9, api.OK)
	checkSteps(t, text(t, "push 1; if 1; push 1; if 1; size; size"), 6)
}

// P9.1: 8 numbers on the stack, all of which come back.
func TestFullStack(t *testing.T) {
	full := text(t, "push 1; push 2; push 3; push 4; push 5; push 6; push 7; push 8")
	want := contours{make([]api.Point, 8)}
	var down program
	for k := range 8 {
		down = append(down, api.Op{Code: api.OpSetX, N: k})
		want[0][k].X = 8 - k
	}
	checkRun(t, slices.Concat(full, down), contours{make([]api.Point, 8)}, 12, want, 16, api.OK)
	for _, s := range []string{"neg; neg", "neg; half; setx 0; size", "round; setx 1; push 8", "if 1; push 5; size", "setx 0; loop 2 2; size; setx 2"} {
		checkModel(t, slices.Concat(full, text(t, s), down), contours{make([]api.Point, 8)}, 12)
	}
	checkNumber(t, append(full, text(t, "add; add; add; add; add; add; add")...), 12, 36)
	checkNumber(t, append(full, text(t, "sub; sub; sub; sub; sub; sub; sub")...), 12, -4)
}

// P9.1, P9.2: all programs of up to 4 operations, of 20 ones, and of up to 5 of 11 ones.
func TestAllShortPrograms(t *testing.T) {
	many := text(t, "push 1; push -70; add; sub; min; max; neg; half; round; size; getx 1; gety 0; setx 0; sety 1; if 1; if 2; loop 2 1; loop 3 2; loop 1 3; getx 2")
	few := text(t, "push 1; push 0; sub; getx 0; setx 0; sety 1; if 1; if 2; loop 2 1; loop 3 2; setx 2")
	results := map[api.Errno]int{}
	o := contours{{{X: 40, Y: -3}}, {{X: 7, Y: 100, On: true}}}
	var all func(p, l program, more int)
	all = func(p, l program, more int) {
		results[checkModel(t, p, o, 11)]++
		if more > 0 {
			for _, op := range l {
				all(append(p, op), l, more-1)
			}
		}
	}
	all(make(program, 0, 4), many, 4)
	all(make(program, 0, 5), few, 5)
	for _, errno := range []api.Errno{api.OK, api.ErrForm, api.ErrDepth, api.ErrTarget} {
		if results[errno] < 10000 {
			t.Errorf("errors of Run: %v", results)
		}
	}
}

// P9.1, P9.2: random programs.
func TestRandomPrograms(t *testing.T) {
	r := newSource(91)
	results := map[api.Errno]int{}
	for k := range 60000 {
		var p program
		switch k % 4 {
		case 0:
			p = r.wild(r.IntN(12))
		case 1:
			p = r.tame(0, 0, r.IntN(90))
		case 2: // with many steps
			p = inside(1+r.IntN(16), inside(8+r.IntN(9), r.tame(0, 2, 1+r.IntN(8))))
		default:
			p = r.tame(0, 0, r.IntN(30))
			if len(p) > 0 {
				p[r.IntN(len(p))] = r.wild(1)[0]
			}
		}
		results[checkModel(t, p, r.outline(6+r.IntN(5)), r.number())]++
	}
	for _, errno := range []api.Errno{api.OK, api.ErrCost, api.ErrForm, api.ErrDepth, api.ErrTarget} {
		if results[errno] < 1000 {
			t.Errorf("errors of Run: %v", results)
		}
	}
}
