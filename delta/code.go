package delta

import (
	"coffer/api"
	"coffer/code"
)

// copyMark stands in the lowest bit of a length's number; the length is twice as much there.
const copyMark = 1

// Encode makes the code of a delta. With ErrOp the number is that of the first op that can't be.
func Encode(ops []api.Op) (string, api.Errno, int) {
	if at := firstFault(ops, api.MaxText); at < len(ops) {
		return "", api.ErrOp, at
	}
	return string(AddCode(nil, ops)), api.OK, 0
}

// AddCode writes the code of ops that are a delta behind the bytes.
func AddCode(bytes []byte, ops []api.Op) []byte {
	bytes = code.AddNumber(bytes, len(ops))
	for _, op := range ops {
		bytes = addOp(bytes, op)
	}
	return bytes
}

func addOp(bytes []byte, op api.Op) []byte {
	if isCopy(op) {
		bytes = code.AddNumber(bytes, 2*op.Len+copyMark)
		return code.AddNumber(bytes, op.From)
	}
	bytes = code.AddNumber(bytes, 2*len(op.Text))
	return append(bytes, op.Text...)
}

// Read reads the code of a delta. What can't be read gives up by a panic with a code.Fault.
func Read(r *code.Reader) []api.Op {
	start := r.At()
	count := r.Number()
	if count > api.MaxOps {
		code.GiveUp(start)
	}
	var ops []api.Op
	room := api.MaxText
	for range count {
		op := readOp(r, ops, room)
		ops = append(ops, op)
		room -= size(op)
	}
	return ops
}

// readOp reads the op behind those ahead, which leave room for so many bytes.
func readOp(r *code.Reader, ahead []api.Op, room int) api.Op {
	start := r.At()
	number := r.Number()
	length := number / 2
	if length == 0 || length > room {
		code.GiveUp(start)
	}
	if number%2 == copyMark {
		return readCopy(r, ahead, length)
	}
	// Ahead of its bytes: it is the length that says that here is a TEXT.
	if len(ahead) > 0 && !isCopy(ahead[len(ahead)-1]) {
		code.GiveUp(start)
	}
	return api.Op{Text: r.Text(length)}
}

func readCopy(r *code.Reader, ahead []api.Op, length int) api.Op {
	start := r.At()
	op := api.Op{From: r.Number(), Len: length}
	if !isOp(op, api.MaxText) || len(ahead) > 0 && !mayFollow(ahead[len(ahead)-1], op) {
		code.GiveUp(start)
	}
	return op
}
