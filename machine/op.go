package machine

import (
	"indelible/api"
	"indelible/exact"
)

const (
	// greatest is the greatest number that the stack takes; the least one is -greatest.
	greatest = 1 << 30
	// grid is the distance between the lines to which OpRound rounds.
	grid = 64
)

func limited(n int) int { return min(max(n, -greatest), greatest) }

// kind is what all operations with the same Code have in common.
type kind struct {
	usesN, usesM bool
	// onPoint tells whether N is a point.
	onPoint bool
	// takes and puts are how many numbers they take from the stack, and then put on it.
	takes, puts int
	// do carries out an operation. It returns the number that is put on the stack; if there is none, how often the block of the operation is carried out.
	do func(x use) int
}

// use is what an operation works on: taken has a and b of the document, in this order; there is a point only for a kind with onPoint.
type use struct {
	n, size int
	taken   [2]int
	point   *api.Point
}

// kinds returns the kinds of operations by their Codes. No operation has the Code 0, and it has no kind.
func kinds() [api.OpLoop + 1]kind {
	return [...]kind{
		api.OpPush:  {usesN: true, puts: 1, do: func(x use) int { return x.n }},
		api.OpAdd:   {takes: 2, puts: 1, do: func(x use) int { return x.taken[0] + x.taken[1] }},
		api.OpSub:   {takes: 2, puts: 1, do: func(x use) int { return x.taken[0] - x.taken[1] }},
		api.OpMin:   {takes: 2, puts: 1, do: func(x use) int { return min(x.taken[0], x.taken[1]) }},
		api.OpMax:   {takes: 2, puts: 1, do: func(x use) int { return max(x.taken[0], x.taken[1]) }},
		api.OpNeg:   {takes: 1, puts: 1, do: func(x use) int { return -x.taken[0] }},
		api.OpHalf:  {takes: 1, puts: 1, do: half},
		api.OpRound: {takes: 1, puts: 1, do: round},
		api.OpSize:  {puts: 1, do: func(x use) int { return x.size }},
		api.OpGetX:  {usesN: true, onPoint: true, puts: 1, do: func(x use) int { return x.point.X }},
		api.OpGetY:  {usesN: true, onPoint: true, puts: 1, do: func(x use) int { return x.point.Y }},
		api.OpSetX:  {usesN: true, onPoint: true, takes: 1, do: setX},
		api.OpSetY:  {usesN: true, onPoint: true, takes: 1, do: setY},
		api.OpIf:    {usesN: true, takes: 1, do: choose},
		api.OpLoop:  {usesN: true, usesM: true, do: func(x use) int { return x.n }},
	}
}

func half(x use) int {
	n, _ := exact.Floor(x.taken[0], 2)
	return n
}

func round(x use) int {
	n, _ := exact.Round(x.taken[0], grid)
	return grid * n
}

func setX(x use) int {
	x.point.X = x.taken[0]
	return 0
}

func setY(x use) int {
	x.point.Y = x.taken[0]
	return 0
}

// choose returns how often the block of an If is carried out.
func choose(x use) int {
	if x.taken[0] > 0 {
		return 1
	}
	return 0
}

func hasBlock(op api.Op) bool { return op.Code == api.OpIf || op.Code == api.OpLoop }

// lengthOf returns the length of the block of an operation, or 0 if it has none.
func lengthOf(op api.Op) int {
	switch op.Code {
	case api.OpIf:
		return op.N
	case api.OpLoop:
		return op.M
	}
	return 0
}

// fits reports whether the block of an operation is carried out as often as permitted, and ends within the operations that are left.
func fits(op api.Op, left int) bool {
	rounds := op.Code == api.OpIf || 1 <= op.N && op.N <= api.MaxRounds
	return rounds && 1 <= lengthOf(op) && lengthOf(op) <= left
}
