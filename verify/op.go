package verify

import "indelible/api"

// kind is what all operations with the same Code have in common.
type kind struct {
	word string
	// fields is how many fields they use: none, N, or N and M.
	fields int
	// onPoint tells whether N is a point.
	onPoint bool
	// takes and puts are how many numbers they take from the stack, and then put on it.
	takes, puts int
}

// kinds has the kinds of operations by their Codes.
var kinds = [...]kind{
	api.OpPush:  {word: "push", fields: 1, puts: 1},
	api.OpAdd:   {word: "add", takes: 2, puts: 1},
	api.OpSub:   {word: "sub", takes: 2, puts: 1},
	api.OpMin:   {word: "min", takes: 2, puts: 1},
	api.OpMax:   {word: "max", takes: 2, puts: 1},
	api.OpNeg:   {word: "neg", takes: 1, puts: 1},
	api.OpHalf:  {word: "half", takes: 1, puts: 1},
	api.OpRound: {word: "round", takes: 1, puts: 1},
	api.OpSize:  {word: "size", puts: 1},
	api.OpGetX:  {word: "getx", fields: 1, onPoint: true, puts: 1},
	api.OpGetY:  {word: "gety", fields: 1, onPoint: true, puts: 1},
	api.OpSetX:  {word: "setx", fields: 1, onPoint: true, takes: 1},
	api.OpSetY:  {word: "sety", fields: 1, onPoint: true, takes: 1},
	api.OpIf:    {word: "if", fields: 1, takes: 1},
	api.OpLoop:  {word: "loop", fields: 2},
}

func isFormed(op api.Op) bool {
	if op.Code < api.OpPush || op.Code > api.OpLoop {
		return false
	}
	fields := kinds[op.Code].fields
	return (fields >= 1 || op.N == 0) && (fields >= 2 || op.M == 0)
}

func setsPoint(op api.Op) bool { return op.Code == api.OpSetX || op.Code == api.OpSetY }

func hasBlock(op api.Op) bool { return op.Code == api.OpIf || op.Code == api.OpLoop }

// blockOf returns how often the block of an operation counts, and its length; both are 0 if the operation has none.
func blockOf(op api.Op) (rounds, length int) {
	switch op.Code {
	case api.OpIf:
		return 1, op.N
	case api.OpLoop:
		return op.N, op.M
	}
	return 0, 0
}
