package verify_test

import (
	"math"
	"slices"
	"testing"

	"indelible/api"
)

// P8.1: the document's examples.
func TestExamplesOfCheck(t *testing.T) {
	checkOK(t, program{getx(1), round, setx(1)}, 4, 3, 1, 1)
	checkError(t, program{loop(4, 3), getx(0), push(-16), add}, 4, api.ErrDepth)
	checkOK(t, program{size, push(9), sub, when(2), push(64), sety(3)}, 4, 6, 2, 3)
	checkOK(t, program{loop(16, 4), push(1), when(2), gety(2), sety(2)}, 4, 65, 1, 2)
	checkError(t, program{add}, 4, api.ErrDepth)
	checkError(t, program{getx(4)}, 4, api.ErrTarget)
	checkError(t, program{when(1)}, 4, api.ErrForm)
	checkError(t, program{push(1)}, 4, api.ErrDepth)
}

// P8.1: no operations, 64 of them, and more.
func TestCheckOfNumbers(t *testing.T) {
	checkOK(t, nil, 4, 0, 0)
	checkOK(t, program{}, 0, 0, 0)
	checkOK(t, times(32, size, setx(0)), 1, 64, 1, 0)
	checkError(t, append(times(32, size, setx(0)), size), 1, api.ErrMany)
	checkError(t, times(33, size, setx(0)), 1, api.ErrMany)
	checkError(t, times(65, size), 1, api.ErrMany)
	checkError(t, times(65, api.Op{}), 1, api.ErrMany)
	checkError(t, times(100000, setx(0)), -1, api.ErrMany)
	checkError(t, times(64, api.Op{}), 1, api.ErrForm)
	checkOK(t, inside(1, join(program{size, neg, setx(0)}, times(30, size, setx(0)))), 1, 64, 1, 0)
	checkError(t, inside(1, times(32, size, setx(0))), 1, api.ErrMany)
}

// P8.1: the operations that are formed, and others.
func TestCheckOfForms(t *testing.T) {
	// The height 3 suits all operations.
	for code := 1; code <= 15; code++ {
		x := traits[code]
		op := api.Op{Code: code}
		if x.fields > 0 {
			op.N = 1
		}
		if x.fields > 1 {
			op.M = 1
		}
		p := program{size, size, size, op}
		if code >= 14 {
			p = append(p, neg)
		}
		p = append(p, times(3-x.takes+x.puts, setx(1))...)
		checkOK(t, p, 2, len(p), 3+max(x.puts-x.takes, 0), 1)
		for _, n := range append([]int{-2, -1, 1, 2}, extremes...) {
			a, b := slices.Clone(p), slices.Clone(p)
			a[3].N, b[3].M = n, n
			if x.fields < 1 {
				checkError(t, a, 2, api.ErrForm)
			}
			if x.fields < 2 {
				checkError(t, b, 2, api.ErrForm)
			}
			checkModel(t, a, 2)
			checkModel(t, b, 2)
		}
	}
	for _, code := range append([]int{-15, -1, 0, 16, 17, 256 + 1}, extremes...) {
		checkError(t, program{{Code: code}}, 2, api.ErrForm)
		checkError(t, program{size, {Code: code, N: 1}, setx(0)}, 2, api.ErrForm)
		checkError(t, program{size, setx(0), {Code: code}}, 2, api.ErrForm)
		checkError(t, program{size, when(1), {Code: code}}, 2, api.ErrForm)
	}
	// Push takes any N.
	for _, n := range append([]int{0, 1, -1}, extremes...) {
		checkOK(t, program{push(n), setx(0)}, 1, 2, 1, 0)
	}
}

// P8.1: how often a Loop is carried out.
func TestCheckOfRounds(t *testing.T) {
	for n := 1; n <= 16; n++ {
		checkOK(t, program{loop(n, 2), size, sety(0)}, 1, 1+2*n, 1, 0)
		checkOK(t, program{size, loop(n, 1), neg, sety(0)}, 1, 3+n, 1, 0)
	}
	for _, n := range append([]int{-17, -16, -1, 0, 17, 18, 32}, extremes...) {
		checkError(t, program{loop(n, 2), size, sety(0)}, 1, api.ErrForm)
		checkError(t, program{loop(1, 3), loop(n, 2), size, sety(0)}, 1, api.ErrForm)
	}
}

// P8.1: lengths of blocks, which end at the latest with the program, and with the enclosing block.
func TestCheckOfLengths(t *testing.T) {
	pair := program{size, setx(0)}
	for n := range 8 {
		rest := slices.Concat(times(n, pair...))
		p := join(program{loop(2, 2*n)}, rest)
		if n > 0 {
			checkOK(t, p, 1, 1+4*n, 1, 0)
			checkOK(t, join(p, pair), 1, 3+4*n, 1, 0)
			checkOK(t, join(program{size, when(2 * n)}, rest), 1, 2+2*n, 1, 0)
		}
		for _, m := range append([]int{0, -1, -2, 2*n + 1, 2*n + 2, 64, 65}, extremes...) {
			checkError(t, join(program{loop(2, m)}, rest), 1, api.ErrForm)
			checkError(t, join(program{size, when(m)}, rest), 1, api.ErrForm)
			// What follows the enclosing block is not a part of it.
			checkError(t, join(program{loop(1, 2*n+1), loop(2, m)}, rest, times(3, pair...)), 1, api.ErrForm)
			checkError(t, join(program{size, loop(1, 2*n+1), when(m)}, rest, times(3, pair...)), 1, api.ErrForm)
			checkError(t, join(program{size, size, when(2*n + 1), when(m)}, rest, times(3, pair...)), 1, api.ErrForm)
		}
	}
	// Blocks of one operation.
	checkOK(t, program{size, loop(3, 1), neg, setx(0)}, 1, 6, 1, 0)
	checkOK(t, program{size, size, when(1), round, setx(0)}, 1, 5, 2, 0)
	checkError(t, program{loop(3, 1), size}, 1, api.ErrDepth)
	checkError(t, program{loop(3, 1)}, 1, api.ErrForm)
	checkError(t, program{size, setx(0), loop(3, 1)}, 1, api.ErrForm)
	checkError(t, program{loop(3, 1), loop(3, 1), size, setx(0)}, 1, api.ErrForm)
	checkError(t, program{size, loop(3, 1), when(1), neg}, 1, api.ErrForm)
}

// P8.1: blocks that end together, and with the program.
func TestCheckOfBlocksThatEndTogether(t *testing.T) {
	checkOK(t, program{loop(2, 3), loop(3, 2), size, setx(1)}, 2, 1+2*(1+3*2), 1, 1)
	checkOK(t, program{loop(2, 4), loop(5, 3), loop(3, 2), size, setx(1)}, 2, 1+2*(1+5*(1+3*2)), 1, 1)
	checkOK(t, program{loop(2, 4), loop(5, 3), loop(3, 2), size, setx(1), size, setx(0)}, 2, 3+2*(1+5*(1+3*2)), 1, 0, 1)
	checkOK(t, program{loop(2, 6), size, loop(5, 3), size, add, neg, setx(1)}, 2, 1+2*(3+5*3), 2, 1)
	checkOK(t, program{size, size, size, when(5), half, size, when(2), size, setx(0), setx(1), setx(1)}, 2, 11, 3, 0, 1)
	checkOK(t, program{size, size, when(4), size, when(2), size, setx(0), setx(1)}, 2, 8, 2, 0, 1)
	// The inner one, the outer one, or both leave another height.
	checkError(t, program{size, size, loop(2, 2), loop(3, 1), add, setx(0)}, 1, api.ErrDepth)
	checkError(t, program{loop(2, 3), size, loop(3, 1), neg, setx(0)}, 1, api.ErrDepth)
	checkError(t, program{loop(2, 2), loop(3, 1), size, setx(0)}, 1, api.ErrDepth)
	checkError(t, program{loop(1, 3), size, loop(1, 1), setx(0)}, 1, api.ErrDepth)
	checkError(t, program{size, when(3), size, when(1), size}, 1, api.ErrDepth)
}

// P8.1: 3 and 4 nested blocks.
func TestCheckOfNestedBlocks(t *testing.T) {
	pair := program{size, setx(0)}
	three := inside(2, inside(3, inside(4, pair)))
	checkOK(t, three, 1, 1+2*(1+3*(1+4*2)), 1, 0)
	checkError(t, inside(1, three), 1, api.ErrDepth)
	checkOK(t, join(three, three), 1, 2*(1+2*(1+3*(1+4*2))), 1, 0)
	checkOK(t, inside(2, join(inside(1, inside(1, pair)), pair, inside(3, inside(1, pair)))), 1, 1+2*(4+2+1+3*3), 1, 0)
	checkError(t, inside(2, join(inside(1, inside(1, pair)), pair, inside(3, inside(1, inside(1, pair))))), 1, api.ErrDepth)
	// Each If and Loop counts.
	for k := range 8 {
		p := pair
		for n := range 3 {
			if k>>n%2 == 0 {
				p = inside(1, p)
			} else {
				p = join(program{size, when(len(p))}, p)
			}
		}
		checkOK(t, p, 1, len(p), 1, 0)
		checkError(t, inside(1, p), 1, api.ErrDepth)
		checkError(t, join(program{size, when(len(p))}, p), 1, api.ErrDepth)
	}
	// A block that lies wrong is found before that it is nested too deeply.
	for _, m := range []int{0, -1, 3, 100} {
		checkError(t, inside(1, inside(1, inside(1, program{loop(1, m), size, setx(0)}))), 1, api.ErrForm)
		checkError(t, inside(1, inside(1, inside(1, program{when(m), size, setx(0)}))), 1, api.ErrForm)
	}
	checkError(t, inside(1, inside(1, inside(1, program{loop(17, 2), size, setx(0)}))), 1, api.ErrForm)
	deep := program{}
	for n := 63; n > 0; n-- {
		deep = append(deep, loop(1, n))
	}
	checkError(t, append(deep, size), 1, api.ErrDepth)
}

// P8.1: the height 8 and 9, and 0 and less.
func TestCheckOfHeights(t *testing.T) {
	down := times(8, setx(0))
	checkOK(t, join(times(8, size), down), 1, 16, 8, 0)
	for _, op := range (program{push(1), size, getx(0), gety(0)}) {
		checkOK(t, join(times(7, size), program{op}, down), 1, 16, 8, 0)
		checkError(t, join(times(8, size), program{op}, down, down[:1]), 1, api.ErrDepth)
		checkError(t, join(inside(2, join(times(8, size), down)), times(8, size), program{op}), 1, api.ErrDepth)
	}
	for _, op := range (program{neg, half, round}) {
		checkOK(t, join(times(8, size), program{op}, down), 1, 17, 8, 0)
		checkOK(t, program{size, op, setx(0)}, 1, 3, 1, 0)
		checkError(t, program{op}, 1, api.ErrDepth)
		checkError(t, program{size, setx(0), op, size, setx(0)}, 1, api.ErrDepth)
	}
	for _, op := range (program{add, sub, least, most}) {
		checkOK(t, join(times(8, size), program{op}, down[:7]), 1, 16, 8, 0)
		checkOK(t, program{size, size, op, setx(0)}, 1, 4, 2, 0)
		checkError(t, program{op, setx(0)}, 1, api.ErrDepth)
		checkError(t, program{size, op, setx(0)}, 1, api.ErrDepth)
	}
	for _, op := range (program{setx(0), sety(0)}) {
		checkOK(t, join(times(8, size), program{op}, down[:7]), 1, 16, 8, 0)
		checkError(t, program{op}, 1, api.ErrDepth)
		checkError(t, program{size, op, op}, 1, api.ErrDepth)
		checkError(t, program{op, size}, 1, api.ErrDepth)
	}
	checkOK(t, join(times(8, size), program{loop(2, 1), neg}, down), 1, 19, 8, 0)
	checkOK(t, join(times(8, size), program{when(1), neg}, down[:7]), 1, 17, 8, 0)
	checkOK(t, join(times(8, size), program{when(2), size, setx(0)}, down[:7]), 1, 18, 8, 0)
	checkError(t, join(times(8, size), program{loop(2, 2), size, setx(0)}, down), 1, api.ErrDepth)
	checkError(t, program{when(1), neg}, 1, api.ErrDepth)
	checkError(t, program{when(2), size, setx(0)}, 1, api.ErrDepth)
	// The greatest height may be anywhere.
	checkOK(t, program{loop(1, 6), size, size, size, setx(0), setx(0), setx(0), size, setx(0)}, 1, 9, 3, 0)
	checkOK(t, program{size, setx(0), size, size, when(2), size, setx(0), setx(0)}, 1, 8, 2, 0)
}

// P8.1: heights after a block that are not the one before it, and heights that are not 0 at the end.
func TestCheckOfBalance(t *testing.T) {
	checkError(t, program{loop(1, 1), size, setx(0)}, 1, api.ErrDepth)
	checkError(t, program{size, loop(1, 1), setx(0), size, setx(0)}, 1, api.ErrDepth)
	checkError(t, program{size, loop(2, 1), setx(0)}, 1, api.ErrDepth)
	checkError(t, program{size, size, loop(1, 1), add, setx(0)}, 1, api.ErrDepth)
	checkError(t, program{size, size, size, loop(1, 2), setx(0), setx(0), setx(0)}, 1, api.ErrDepth)
	// The If has taken its number before the block.
	checkError(t, program{size, when(1), size, setx(0)}, 1, api.ErrDepth)
	checkError(t, program{size, when(1), size}, 1, api.ErrDepth)
	checkError(t, program{size, size, when(1), size, setx(0), setx(0)}, 1, api.ErrDepth)
	checkError(t, program{size, size, when(1), setx(0)}, 1, api.ErrDepth)
	checkOK(t, program{size, size, when(2), size, add, setx(0)}, 1, 6, 2, 0)
	// A block may use what lay on the stack before it.
	checkOK(t, program{size, loop(4, 2), neg, half, setx(0)}, 1, 11, 1, 0)
	checkOK(t, program{size, loop(4, 2), setx(1), size, setx(0)}, 2, 11, 1, 0, 1)
	checkOK(t, program{size, size, loop(2, 2), add, size, setx(0), setx(0)}, 1, 9, 2, 0)
	checkOK(t, program{size, size, loop(3, 4), setx(0), setx(1), size, size, most, setx(0)}, 2, 5+3*4, 2, 0, 1)
	for n := 1; n <= 8; n++ {
		checkError(t, times(n, size), 1, api.ErrDepth)
		checkError(t, append(times(n, size), times(n-1, setx(0))...), 1, api.ErrDepth)
	}
	checkError(t, program{size, setx(0), size}, 1, api.ErrDepth)
	checkError(t, program{size, loop(2, 1), neg}, 1, api.ErrDepth)
}

// expensive returns a program that costs 1985 and so many more.
func expensive(more int) program {
	p := inside(16, join(inside(8, times(15, neg)), times(3, neg)))
	return join(program{size}, p, times(more-2, neg), program{setx(0)})
}

// P8.1: the cost.
func TestCheckOfCosts(t *testing.T) {
	checkOK(t, expensive(14), 1, 1999, 1, 0)
	checkOK(t, expensive(15), 1, 2000, 1, 0)
	checkError(t, expensive(16), 1, api.ErrCost)
	checkError(t, expensive(30), 1, api.ErrCost)
	pair := program{size, setx(0)}
	checkOK(t, inside(16, inside(15, times(4, pair...))), 1, 1+16*(1+15*8), 1, 0)
	checkOK(t, inside(16, inside(15, inside(3, pair))), 1, 1+16*(1+15*(1+3*2)), 1, 0)
	checkError(t, inside(16, inside(15, inside(4, pair))), 1, api.ErrCost)
	checkError(t, inside(16, inside(16, inside(16, times(30, pair...)))), 1, api.ErrCost)
	// The block of an If counts once, whether it is carried out or not.
	checkOK(t, program{size, when(2), size, setx(0)}, 1, 4, 1, 0)
	checkOK(t, program{size, when(5), loop(3, 4), size, when(2), size, setx(0)}, 1, 3+3*4, 1, 0)
	checkOK(t, program{loop(3, 7), size, when(5), loop(16, 2), size, setx(0), size, setx(0)}, 1, 1+3*(1+1+1+32+2), 1, 0)
	checkOK(t, program{size, when(5), loop(3, 2), size, setx(0), size, setx(0), size, setx(0)}, 1, 1+1+1+6+2+2, 1, 0)
}

// P8.1: points that exist, and others.
func TestCheckOfPoints(t *testing.T) {
	uses := []func(n int) program{
		func(n int) program { return program{getx(n), setx(0)} },
		func(n int) program { return program{gety(n), sety(0)} },
		func(n int) program { return program{size, setx(n)} },
		func(n int) program { return program{size, sety(n)} },
		func(n int) program { return program{size, when(2), gety(n), sety(0)} },
	}
	for k, use := range uses {
		for _, points := range []int{1, 2, 4, 63, 64, 65, 1000, math.MaxInt} {
			for _, n := range []int{0, points / 2, points - 1} {
				reach := 0
				if k == 2 || k == 3 {
					reach = n
				}
				checkOK(t, use(n), points, len(use(n)), 1, reach)
			}
			for _, n := range []int{-1, -points, points, points + 1, math.MinInt} {
				if n < 0 || n > points { // points + 1 may wrap around
					checkError(t, use(n), points, api.ErrTarget)
				}
			}
			if points < math.MaxInt {
				checkError(t, use(points), points, api.ErrTarget)
				checkError(t, use(math.MaxInt), points, api.ErrTarget)
			}
		}
		for _, points := range []int{0, -1, -2, math.MinInt + 1, math.MinInt} {
			for _, n := range []int{0, 1, -1, -2, points - 1, points, points + 1} {
				checkError(t, use(n), points, api.ErrTarget)
			}
		}
	}
	// Other operations do not use points.
	for _, points := range []int{math.MinInt, -1, 0} {
		checkOK(t, nil, points, 0, 0)
		checkError(t, program{size, neg, push(9)}, points, api.ErrDepth)
		checkError(t, program{size, push(-9), when(1), neg, loop(9, 2), half, round}, points, api.ErrDepth)
	}
	checkOK(t, program{push(9), push(-9), when(1), neg, loop(9, 2), half, round, setx(0)}, 1, 24, 2, 0)
}

// P8.1: the points that operations set.
func TestCheckOfReach(t *testing.T) {
	checkOK(t, program{size, setx(5), size, sety(2), size, setx(7)}, 8, 6, 1, 2, 5, 7)
	checkOK(t, program{size, setx(5), size, setx(5), size, sety(5)}, 8, 6, 1, 5)
	checkOK(t, program{size, size, size, setx(5), sety(0), setx(5)}, 8, 6, 3, 0, 5)
	checkOK(t, program{size, size, size, size, setx(9), sety(10), sety(9), setx(1)}, 11, 8, 4, 1, 9, 10)
	checkOK(t, program{getx(3), gety(4), add, setx(1)}, 8, 4, 2, 1)
	checkOK(t, program{getx(3), when(3), loop(9, 2), gety(4), sety(6)}, 8, 1+1+1+18, 1, 6)
	checkOK(t, program{size, setx(math.MaxInt - 1), size, setx(0)}, math.MaxInt, 4, 1, 0, math.MaxInt-1)
	var p program
	var want []int
	for n := range 32 {
		p = append(p, size, setx(31-n))
		want = append(want, n)
	}
	checkOK(t, p, 32, 64, 1, want...)
}

// P8.1: several errors; the first one is returned.
func TestCheckOfOrder(t *testing.T) {
	bad := api.Op{Code: 16}
	for _, x := range []struct {
		p    program
		want api.Errno
	}{
		// of one operation
		{program{{Code: api.OpGetX, N: 9, M: 1}}, api.ErrForm},
		{program{{Code: api.OpSetX, N: 9, M: 1}}, api.ErrForm},
		{program{{Code: api.OpAdd, N: 1}}, api.ErrForm},
		{program{setx(9)}, api.ErrTarget},
		{program{sety(-1)}, api.ErrTarget},
		{join(times(8, size), program{getx(9)}), api.ErrTarget},
		{join(times(8, size), program{getx(3)}), api.ErrDepth},
		{program{when(1)}, api.ErrForm},
		{program{when(0), size}, api.ErrForm},
		{program{when(1), size}, api.ErrDepth},
		// of one operation and another one
		{program{add, bad}, api.ErrDepth},
		{program{bad, add}, api.ErrForm},
		{program{getx(9), bad}, api.ErrTarget},
		{program{size, getx(9), add, add, add}, api.ErrTarget},
		{program{size, add, getx(9)}, api.ErrDepth},
		{program{loop(1, 2), bad}, api.ErrForm},
		{program{loop(1, 1), getx(9)}, api.ErrTarget},
		{program{size, when(1), getx(9), bad}, api.ErrTarget},
		// at the end of a block, and after it
		{program{loop(1, 1), size, bad}, api.ErrDepth},
		{program{loop(1, 1), size, getx(9)}, api.ErrDepth},
		{program{loop(1, 2), size, bad}, api.ErrForm},
		{program{loop(1, 2), size, getx(9)}, api.ErrTarget},
		{program{loop(1, 2), loop(1, 1), size, getx(9)}, api.ErrDepth},
		{program{loop(1, 3), loop(1, 1), size, getx(9)}, api.ErrDepth},
		{program{loop(1, 3), loop(1, 2), size, getx(9)}, api.ErrTarget},
		{program{size, when(1), size, bad}, api.ErrDepth},
		// at the end of the program
		{program{size, bad}, api.ErrForm},
		{program{size, getx(9)}, api.ErrTarget},
		{append(expensive(30), size), api.ErrDepth},
		{append(expensive(30), bad), api.ErrForm},
		{append(expensive(30), getx(9)), api.ErrTarget},
		{append(expensive(30), add), api.ErrDepth},
		{append(expensive(30), loop(1, 1), size), api.ErrDepth},
		{append(expensive(30), size, setx(0)), api.ErrCost},
		{join(expensive(27), times(64-len(expensive(27)), bad)), api.ErrForm},
		{join(expensive(27), times(65-len(expensive(27)), bad)), api.ErrMany},
	} {
		checkError(t, x.p, 4, x.want)
	}
}

// fewOps are operations of which the small programs are made, for 2 points.
var fewOps = program{push(1), neg, add, setx(1), getx(0), gety(2), when(1), when(2), loop(2, 1), loop(16, 2), loop(1, 3), loop(3, 4), loop(17, 1), {Code: api.OpNeg, N: 1}}

// P8.1: all programs of up to 5 of few operations.
func TestCheckOfSmallPrograms(t *testing.T) {
	results := map[api.Errno]int{}
	var grow func(p program, left int)
	grow = func(p program, left int) {
		results[checkModel(t, p, 2)]++
		if left == 0 {
			return
		}
		for _, op := range fewOps {
			grow(append(slices.Clip(p), op), left-1)
		}
	}
	grow(nil, 5)
	for _, errno := range []api.Errno{api.OK, api.ErrForm, api.ErrDepth, api.ErrTarget} {
		if results[errno] < 100 {
			t.Errorf("%v was the result %d times", errno, results[errno])
		}
	}
}

// P8.1: programs that are verified, or wrong in one place, or in many.
func TestCheckOfRandomPrograms(t *testing.T) {
	r := newSource(81)
	results := map[api.Errno]int{}
	for range 40000 {
		p := r.tame(0, 0, r.IntN(12)*r.IntN(6))
		q := r.spoilt(p)
		w := make(program, r.IntN(70))
		for i := range w {
			w[i] = r.wild()
		}
		for _, p := range []program{p, q, r.spoilt(q), w} {
			results[checkModel(t, p, 8)]++
			checkModel(t, p, r.IntN(10)-1)
			checkModel(t, p, extremes[r.IntN(len(extremes))])
		}
	}
	for _, errno := range []api.Errno{api.OK, api.ErrMany, api.ErrForm, api.ErrDepth, api.ErrTarget, api.ErrCost} {
		if results[errno] < 500 {
			t.Errorf("%v was the result %d times", errno, results[errno])
		}
	}
}
