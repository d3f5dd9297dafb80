package verify_test

import (
	"maps"
	"math"
	"math/rand/v2"
	"slices"
	"testing"

	"indelible/api"
	"indelible/verify"
)

type program = []api.Op

var (
	add   = api.Op{Code: api.OpAdd}
	sub   = api.Op{Code: api.OpSub}
	least = api.Op{Code: api.OpMin}
	most  = api.Op{Code: api.OpMax}
	neg   = api.Op{Code: api.OpNeg}
	half  = api.Op{Code: api.OpHalf}
	round = api.Op{Code: api.OpRound}
	size  = api.Op{Code: api.OpSize}
)

func push(n int) api.Op    { return api.Op{Code: api.OpPush, N: n} }
func getx(n int) api.Op    { return api.Op{Code: api.OpGetX, N: n} }
func gety(n int) api.Op    { return api.Op{Code: api.OpGetY, N: n} }
func setx(n int) api.Op    { return api.Op{Code: api.OpSetX, N: n} }
func sety(n int) api.Op    { return api.Op{Code: api.OpSetY, N: n} }
func when(n int) api.Op    { return api.Op{Code: api.OpIf, N: n} }
func loop(n, m int) api.Op { return api.Op{Code: api.OpLoop, N: n, M: m} }

// times returns operations n times, one after the other.
func times(n int, p ...api.Op) program { return slices.Repeat(p, n) }

// join returns the concatenation of programs.
func join(l ...program) program { return slices.Concat(l...) }

// inside returns a Loop with its block.
func inside(n int, block program) program { return join(program{loop(n, len(block))}, block) }

// trait is what the document's table says of a Code.
type trait struct {
	word                string
	fields, takes, puts int
	point               bool
}

// traits is the document's table.
var traits = map[int]trait{
	1: {"push", 1, 0, 1, false}, 2: {"add", 0, 2, 1, false}, 3: {"sub", 0, 2, 1, false}, 4: {"min", 0, 2, 1, false}, 5: {"max", 0, 2, 1, false},
	6: {"neg", 0, 1, 1, false}, 7: {"half", 0, 1, 1, false}, 8: {"round", 0, 1, 1, false}, 9: {"size", 0, 0, 1, false}, 10: {"getx", 1, 0, 1, true},
	11: {"gety", 1, 0, 1, true}, 12: {"setx", 1, 1, 0, true}, 13: {"sety", 1, 1, 0, true}, 14: {"if", 1, 1, 0, false}, 15: {"loop", 2, 0, 0, false},
}

// extremes are integers far beyond all limits.
var extremes = []int{math.MinInt, math.MinInt + 1, math.MinInt / 2, -1 << 32, -1 << 31, -1000, 1000, 1 << 31, 1 << 32, math.MaxInt / 2, math.MaxInt - 1, math.MaxInt}

// open is a block that has begun: how often it is carried out, the index of the operation after it, and the height before it.
type open struct{ rounds, end, height int }

// checked returns what Check promises. It goes through the operations one by one, with a list of the blocks that have begun, the innermost one last.
func checked(p program, points int) (api.Facts, api.Errno) {
	if len(p) > 64 {
		return api.Facts{}, api.ErrMany
	}
	var f api.Facts
	var blocks []open
	height := 0
	reach := map[int]bool{}
	for i, op := range p {
		if errno := wrong(op, len(p)-i-1, blocks, i, height, points); errno != api.OK {
			return api.Facts{}, errno
		}
		height += traits[op.Code].puts - traits[op.Code].takes
		cost := 1
		for _, b := range blocks {
			cost *= b.rounds
		}
		f.Cost, f.Depth = f.Cost+cost, max(f.Depth, height)
		switch op.Code {
		case 12, 13:
			reach[op.N] = true
		case 14:
			blocks = append(blocks, open{1, i + 1 + op.N, height})
		case 15:
			blocks = append(blocks, open{op.N, i + 1 + op.M, height})
		}
		for n := len(blocks); n > 0 && blocks[n-1].end == i+1; n-- {
			if blocks[n-1].height != height {
				return api.Facts{}, api.ErrDepth
			}
			blocks = blocks[:n-1]
		}
	}
	if height != 0 {
		return api.Facts{}, api.ErrDepth
	}
	if f.Cost > 2000 {
		return api.Facts{}, api.ErrCost
	}
	f.Reach = slices.Sorted(maps.Keys(reach))
	return f, api.OK
}

// formed reports whether an operation is formed.
func formed(op api.Op) bool {
	x, ok := traits[op.Code]
	return ok && (op.N == 0 || x.fields > 0) && (op.M == 0 || x.fields > 1)
}

// wrong returns the first error of the operation with the index i, after which as many follow in the program as left says.
func wrong(op api.Op, left int, blocks []open, i, height, points int) api.Errno {
	if len(blocks) > 0 {
		left = blocks[len(blocks)-1].end - i - 1
	}
	x := traits[op.Code]
	isIf, isLoop := op.Code == 14, op.Code == 15
	switch {
	case !formed(op):
		return api.ErrForm
	case isLoop && (op.N < 1 || op.N > 16):
		return api.ErrForm
	case isIf && (op.N < 1 || op.N > left), isLoop && (op.M < 1 || op.M > left):
		return api.ErrForm
	case (isIf || isLoop) && len(blocks) == 3:
		return api.ErrDepth
	case x.point && (op.N < 0 || op.N >= points):
		return api.ErrTarget
	case height < x.takes || height-x.takes+x.puts > 8:
		return api.ErrDepth
	}
	return api.OK
}

// equal compares facts, nil and empty being the same.
func equal(a, b api.Facts) bool {
	return a.Cost == b.Cost && a.Depth == b.Depth && slices.Equal(a.Reach, b.Reach)
}

func checkFacts(t *testing.T, p program, points int, want api.Facts, wantErrno api.Errno) {
	t.Helper()
	if got, errno := verify.Check(p, points); errno != wantErrno || !equal(got, want) {
		t.Errorf("Check(%v, %d) = %v, %v; want %v, %v", p, points, got, errno, want, wantErrno)
	}
}

// checkModel compares what Check says of a program with what it promises, and returns the error.
func checkModel(t *testing.T, p program, points int) api.Errno {
	t.Helper()
	want, errno := checked(p, points)
	checkFacts(t, p, points, want, errno)
	return errno
}

func checkError(t *testing.T, p program, points int, want api.Errno) {
	t.Helper()
	checkFacts(t, p, points, api.Facts{}, want)
	checkModel(t, p, points)
}

func checkOK(t *testing.T, p program, points, cost, depth int, reach ...int) {
	t.Helper()
	checkFacts(t, p, points, api.Facts{Cost: cost, Depth: depth, Reach: reach}, api.OK)
	checkModel(t, p, points)
}

// source makes arguments, always the same ones for a seed.
type source struct{ *rand.Rand }

func newSource(seed uint64) source { return source{rand.New(rand.NewPCG(seed, 8))} }

// field returns a number that a field may have, or, now and then, an extreme one.
func (r source) field() int {
	if r.IntN(8) == 0 {
		return extremes[r.IntN(len(extremes))]
	}
	return r.IntN(9) - 2
}

// wild returns an operation that has any Code and fields.
func (r source) wild() api.Op {
	op := api.Op{Code: 1 + r.IntN(15)}
	if r.IntN(8) == 0 {
		op.Code = r.field()
	}
	if traits[op.Code].fields > 0 || r.IntN(16) == 0 {
		op.N = r.field()
	}
	if traits[op.Code].fields > 1 || r.IntN(16) == 0 {
		op.M = r.field()
	}
	return op
}

// tame returns operations for 8 points and a height, which make no error in so many enclosing blocks, except that there may be too many of them, or a cost too great. They leave the height as it is.
func (r source) tame(height, enclosing, length int) program {
	var p program
	now := height
	for len(p) < length {
		op := api.Op{Code: 1 + r.IntN(15)}
		x := traits[op.Code]
		if now < x.takes || now-x.takes+x.puts > 8 || op.Code >= 14 && enclosing == 3 {
			continue
		}
		if x.fields > 0 {
			op.N = r.IntN(8)
		}
		now += x.puts - x.takes
		var block program
		switch op.Code {
		case 14:
			block = r.tame(now, enclosing+1, 1+r.IntN(3))
			op.N = len(block)
		case 15:
			block = r.tame(now, enclosing+1, 1+r.IntN(3))
			op.N, op.M = 1+r.IntN(16), len(block)
		}
		p = append(append(p, op), block...)
	}
	for ; now > height; now-- {
		p = append(p, setx(r.IntN(8)))
	}
	for ; now < height; now++ {
		p = append(p, size)
	}
	return p
}

// spoilt returns a program, one operation of which has become another one.
func (r source) spoilt(p program) program {
	q := slices.Clone(p)
	if len(q) == 0 {
		return q
	}
	op := &q[r.IntN(len(q))]
	switch r.IntN(5) {
	case 0:
		*op = r.wild()
	case 1:
		op.N = r.field()
	case 2:
		op.M = r.field()
	case 3:
		op.N += 1 - 2*r.IntN(2)
	default:
		op.M += 1 - 2*r.IntN(2)
	}
	return q
}
