package machine_test

import (
	"math"
	"slices"
	"testing"

	"indelible/api"
)

// P9.2: Codes that none of the operations has.
func TestErrorsOfCodes(t *testing.T) {
	for _, code := range append([]int{-15, -1, 0, 16, 17, 256 + 1}, extremes...) {
		bad := api.Op{Code: code}
		checkError(t, program{bad}, api.ErrForm)
		checkError(t, program{{Code: api.OpSize}, bad}, api.ErrForm)
		checkError(t, program{{Code: code, N: 1, M: 1}}, api.ErrForm)
		checkError(t, inside(2, program{{Code: api.OpSize}, bad}), api.ErrForm)
	}
}

// P9.2: N and M that are not 0 where the table says so.
func TestErrorsOfFields(t *testing.T) {
	for code := 1; code <= 15; code++ {
		x := shapes[code]
		op := api.Op{Code: code}
		if x.fields > 0 {
			op.N = 1
		}
		if x.fields > 1 {
			op.M = 1
		}
		numbers := text(t, "size; size")
		after := text(t, "size")
		checkSteps(t, append(append(numbers, op), after...), 4)
		for _, n := range append([]int{-2, -1, 1, 2}, extremes...) {
			a, b := op, op
			a.N, b.M = n, n
			if x.fields < 1 {
				checkError(t, append(slices.Clone(numbers), a, after[0]), api.ErrForm)
				checkError(t, program{a}, api.ErrForm)
			}
			if x.fields < 2 {
				checkError(t, append(slices.Clone(numbers), b, after[0]), api.ErrForm)
				checkError(t, program{b}, api.ErrForm)
			}
			checkModel(t, append(slices.Clone(numbers), a, after[0]), triangle(), 12)
			checkModel(t, append(slices.Clone(numbers), b, after[0]), triangle(), 12)
		}
	}
}

// P9.2: how often a Loop is carried out.
func TestErrorsOfRounds(t *testing.T) {
	block := text(t, "size; setx 0")
	for n := 1; n <= 16; n++ {
		checkSteps(t, inside(n, block), 1+2*n)
	}
	for _, n := range append([]int{-17, -16, -1, 0, 17, 18, 32}, extremes...) {
		checkError(t, inside(n, block), api.ErrForm)
		checkError(t, inside(1, inside(n, block)), api.ErrForm)
	}
}

// P9.2: lengths of blocks, which end at the latest with the program, and with the enclosing block.
func TestErrorsOfLengths(t *testing.T) {
	for n := range 7 {
		rest := slices.Repeat(text(t, "size; setx 0"), n)
		when := func(m int) program { return append(program{{Code: api.OpSize}, {Code: api.OpIf, N: m}}, rest...) }
		loop := func(m int) program { return append(program{{Code: api.OpLoop, N: 1, M: m}}, rest...) }
		for m := 1; m <= len(rest); m++ {
			checkSteps(t, when(m), 2+len(rest))
			checkSteps(t, loop(m), 1+len(rest))
			checkSteps(t, inside(1, loop(m)), 2+len(rest))
			checkSteps(t, inside(1, when(m)), 3+len(rest))
		}
		for _, m := range append([]int{0, -1, -2, len(rest) + 1, len(rest) + 2, 64, 2000}, extremes...) {
			checkError(t, when(m), api.ErrForm)
			checkError(t, loop(m), api.ErrForm)
			// What follows the enclosing block is not a part of it.
			for _, l := range []program{inside(1, when(m)), inside(2, loop(m)), inside(1, inside(1, loop(m))), inside(1, inside(2, when(m)))} {
				checkError(t, append(l, text(t, "size; setx 0; size; setx 0; size; setx 0")...), api.ErrForm)
			}
			// The length plays a part even if the block would be left out.
			checkError(t, append(text(t, "push 0"), when(m)[1:]...), api.ErrForm)
		}
	}
}

// P9.2: blocks in three and in four blocks.
func TestErrorsOfNesting(t *testing.T) {
	for kinds := range 16 {
		p := text(t, "size; setx 0")
		for n := range 4 {
			if kinds>>n%2 == 0 {
				p = inside(1, p)
			} else {
				p = append(program{{Code: api.OpSize}, {Code: api.OpIf, N: len(p)}}, p...)
			}
			if n < 3 {
				checkSteps(t, p, len(p))
				checkSteps(t, append(slices.Clone(p), p...), 2*len(p))
			} else {
				checkError(t, p, api.ErrDepth)
				checkError(t, append(text(t, "loop 1 3; loop 1 2; loop 1 1; half"), p...), api.ErrDepth)
			}
		}
	}
	checkSteps(t, text(t, "loop 1 5; loop 1 4; push 0; if 2; loop 1 1; size"), 4)
	checkError(t, text(t, "loop 1 5; loop 1 4; push 1; if 2; loop 1 1; size"), api.ErrDepth)
	checkError(t, text(t, "loop 1 8; loop 1 7; loop 1 2; size; setx 0; loop 1 3; loop 1 2; size; setx 0"), api.ErrDepth)
	checkSteps(t, text(t, "loop 1 7; loop 1 6; loop 1 2; size; setx 0; loop 1 1; size; setx 0"), 8)
	var deep program
	for n := 63; n > 0; n-- {
		deep = append(deep, api.Op{Code: api.OpLoop, N: 1, M: n})
	}
	checkError(t, append(deep, api.Op{Code: api.OpSize}), api.ErrDepth)
}

// P9.2: numbers that are missing on the stack, and a ninth one.
func TestErrorsOfHeights(t *testing.T) {
	for code := 1; code <= 15; code++ {
		x := shapes[code]
		op := api.Op{Code: code}
		rest := program{}
		if code >= 14 {
			op.N, op.M = 1, code-14
			rest = text(t, "getx 1; setx 1")[:1]
		}
		for height := range 9 {
			p := append(slices.Repeat(text(t, "size"), height), op)
			p = append(p, rest...)
			switch after := height - x.takes + x.puts; {
			case height < x.takes, after > 8, code >= 14 && after == 8:
				checkError(t, p, api.ErrDepth)
			default:
				checkSteps(t, p, len(p))
			}
			checkModel(t, append(p, text(t, "push 5; setx 0")...), triangle(), 12)
		}
	}
	checkError(t, text(t, "loop 9 1; size"), api.ErrDepth)
	checkError(t, text(t, "size; loop 8 1; size"), api.ErrDepth)
	checkSteps(t, text(t, "size; loop 7 1; size"), 9)
	checkError(t, text(t, "size; size; loop 3 1; setx 0"), api.ErrDepth)
	checkSteps(t, text(t, "size; size; loop 2 1; setx 0"), 5)
}

// P9.2: points that do not exist.
func TestErrorsOfPoints(t *testing.T) {
	for _, s := range []string{"getx 0", "gety 0", "size; setx 0", "size; sety 0"} {
		p := text(t, s)
		for n := range 3 {
			p[len(p)-1].N = n
			checkSteps(t, p, len(p))
		}
		for _, n := range append([]int{-3, -2, -1, 3, 4, 64}, extremes...) {
			p[len(p)-1].N = n
			checkError(t, p, api.ErrTarget)
		}
	}
}

// P9.2: exactly 2000 steps, and one more.
func TestErrorsOfCosts(t *testing.T) {
	for n := 1; n <= 3; n++ {
		p := slices.Repeat(text(t, "size; setx 0"), 1000)[:2000-n]
		checkSteps(t, p, 2000-n)
		for _, last := range []program{text(t, "getx 1"), text(t, "loop 1 1; getx 1")} {
			if n >= len(last) {
				checkSteps(t, append(p, last...), 2000-n+len(last))
			} else {
				checkError(t, append(p, last...), api.ErrCost)
			}
		}
	}
	spend := func(more int) program {
		// This takes 1 + 16 (1 + 8 15 + 3) + 1 = 1986 steps.
		p := inside(16, append(inside(8, slices.Repeat(text(t, "neg"), 15)), text(t, "neg; neg; neg")...))
		return slices.Concat(text(t, "size"), p, slices.Repeat(text(t, "neg"), more))
	}
	checkSteps(t, spend(0), 1986)
	checkSteps(t, spend(13), 1999)
	checkSteps(t, spend(14), 2000)
	checkError(t, spend(15), api.ErrCost)
	checkError(t, spend(1000), api.ErrCost)
	checkError(t, inside(16, inside(16, inside(16, text(t, "size; setx 0")))), api.ErrCost)
	// What is left out is no step.
	left := append(program{{Code: api.OpPush}, {Code: api.OpIf, N: 100000}}, make(program, 100000)...)
	checkSteps(t, left, 2)
	checkSteps(t, append(left, text(t, "push 5; setx 1")...), 4)
	checkSteps(t, append(spend(12), left...), 2000)
	checkError(t, append(spend(13), left...), api.ErrCost)
	checkSteps(t, append(spend(10), append(left, text(t, "push 5; setx 1")...)...), 2000)
}

// P9.2: the errors of operations that are left out play no part; those in later rounds do.
func TestErrorsOfWhatIsCarriedOut(t *testing.T) {
	for want, l := range map[api.Errno][]program{
		api.ErrForm:   {{{}}, {{Code: 16}}, {{Code: api.OpPush, M: 1}}, {{Code: api.OpAdd, N: 1}}, text(t, "loop 1 1"), text(t, "loop 17 1; size"), text(t, "push 1; if 1")},
		api.ErrDepth:  {text(t, "add"), text(t, "setx 0"), text(t, "push 1; push 2; push 3; push 4; push 5; push 6; push 7; push 8; push 9")},
		api.ErrTarget: {text(t, "getx 3"), text(t, "push 4; sety -1")},
	} {
		for _, bad := range l {
			checkError(t, bad, want)
			skip := program{{Code: api.OpPush}, {Code: api.OpIf, N: len(bad)}}
			checkSteps(t, append(skip, bad...), 2)
			checkSteps(t, slices.Concat(skip, bad, text(t, "push 1; setx 0")), 4)
			checkSteps(t, inside(5, append(skip, bad...)), 11)
			// The last round, in which X of the point 0 is 12, is the third one.
			count := text(t, "getx 0; push 1; add; setx 0; getx 0; push 12; sub; if 1")
			count[7].N = len(bad)
			checkError(t, inside(3, append(count, bad...)), want)
			checkSteps(t, inside(2, append(count, bad...)), 17)
			checkRun(t, inside(3, append(count, bad...)), contours{{{X: 9}, {}, {}}}, 12, contours{{{X: 12}, {}, {}}}, 25, api.OK)
		}
	}
	// The stack may become too small, or too full, in a later round only.
	checkError(t, text(t, "size; size; size; loop 3 1; add"), api.ErrDepth)
	checkSteps(t, text(t, "size; size; size; loop 2 1; add"), 6)
	checkError(t, text(t, "loop 3 3; size; size; size"), api.ErrDepth)
	checkSteps(t, text(t, "loop 2 3; size; size; size"), 7)
}

// P9.2: several errors in one operation, in their order.
func TestErrorsInOrder(t *testing.T) {
	cheap := text(t, "size; setx 0")
	spent := slices.Repeat(cheap, 1000)
	nine := text(t, "loop 8 1; size")
	three := func(p program) program { return inside(1, inside(1, inside(1, p))) }
	for _, x := range []struct {
		p    program
		want api.Errno
	}{
		{program{{Code: 16, N: 9, M: 9}}, api.ErrForm},
		{program{{Code: api.OpSetX, N: 9, M: 1}}, api.ErrForm},
		{program{{Code: api.OpAdd, N: 1}}, api.ErrForm},
		{program{{Code: api.OpIf, N: 1}}, api.ErrForm},
		{program{{Code: api.OpIf, N: 1, M: 1}, {Code: api.OpSize}}, api.ErrForm},
		{text(t, "setx 9"), api.ErrDepth},
		{text(t, "sety -1"), api.ErrDepth},
		{slices.Concat(nine, text(t, "getx 9")), api.ErrDepth},
		{slices.Concat(nine, text(t, "gety -1")), api.ErrDepth},
		{slices.Concat(nine, program{{Code: api.OpGetX, N: 9, M: 1}}), api.ErrForm},
		{slices.Concat(nine, text(t, "setx 9")), api.ErrTarget},
		{three(text(t, "loop 1 1")), api.ErrForm},
		{three(text(t, "loop 17 1; size")), api.ErrForm},
		{three(text(t, "size; if 1")), api.ErrForm},
		{three(text(t, "if 1; size")), api.ErrDepth},
		{append(three(text(t, "loop 1 1")), cheap...), api.ErrForm},
		// Nothing comes before that there were too many steps.
		{slices.Concat(spent, program{{Code: 16}}), api.ErrCost},
		{slices.Concat(spent, text(t, "loop 1 1")), api.ErrCost},
		{slices.Concat(spent, text(t, "add")), api.ErrCost},
		{slices.Concat(spent, text(t, "getx 9")), api.ErrCost},
		{slices.Concat(spent[:1999], program{{Code: 16}}), api.ErrForm},
		{slices.Concat(spent[:1998], text(t, "setx 9")), api.ErrDepth},
		{slices.Concat(spent[:1999], text(t, "sety 9")), api.ErrTarget},
		// The first operation with an error counts, whatever follows it.
		{append(text(t, "getx 3; add"), api.Op{}), api.ErrTarget},
		{append(text(t, "add; getx 3"), api.Op{}), api.ErrDepth},
		{append(program{{}}, text(t, "add; getx 3")...), api.ErrForm},
		{append(text(t, "push 1; setx 3"), spent...), api.ErrTarget},
		{append(text(t, "if 9"), spent...), api.ErrDepth},
	} {
		checkError(t, x.p, x.want)
	}
}

// P9.2, R2: a run that fails leaves nothing, wherever it has come to.
func TestResultsOfFailures(t *testing.T) {
	o := triangle()
	for range 3 {
		checkRun(t, text(t, "push 5; setx 0; push 6; sety 2; add"), o, 12, nil, 0, api.ErrDepth)
		checkRun(t, text(t, "push 5; setx 0; getx 3"), o, math.MaxInt, nil, 0, api.ErrTarget)
		checkRun(t, inside(16, inside(16, text(t, "getx 0; push 1; add; setx 0; size; neg; half; setx 1"))), o, 12, nil, 0, api.ErrCost)
		checkRun(t, text(t, "push 5; setx 0"), o, 12, contours{{{X: 5, On: true}, o[0][1], o[0][2]}}, 2, api.OK)
	}
}
