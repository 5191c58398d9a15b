package delta

import (
	"strings"

	"coffer/api"
)

// Compose makes the one delta that does what two do, one after the other.
// With ErrOp the number is that of the first op that can't be, of both in a row; or of all, if too many come out.
func Compose(first []api.Op, second []api.Op) ([]api.Op, api.Errno, int) {
	if at := firstFault(first, api.MaxText); at < len(first) {
		return nil, api.ErrOp, at
	}
	if at := firstFault(second, sizeOfAll(first)); at < len(second) {
		return nil, api.ErrOp, len(first) + at
	}
	var ops []api.Op
	for _, op := range second {
		if isCopy(op) {
			ops = joinStretch(ops, first, op.From, op.Len)
		} else {
			ops = join(ops, op)
		}
	}
	if len(ops) > api.MaxOps {
		return nil, api.ErrOp, len(first) + len(second)
	}
	return ops, api.OK, 0
}

// joinStretch adds what makes, in first, length bytes from the byte from on.
func joinStretch(ops []api.Op, first []api.Op, from int, length int) []api.Op {
	for _, op := range first {
		skipped := min(from, size(op))
		taken := min(length, size(op)-skipped)
		if taken > 0 {
			ops = join(ops, piece(op, skipped, taken))
		}
		from -= skipped
		length -= taken
	}
	return ops
}

// piece is the op that makes length of the bytes of op, from the byte from on.
func piece(op api.Op, from int, length int) api.Op {
	if isCopy(op) {
		return api.Op{From: op.From + from, Len: length}
	}
	return api.Op{Text: op.Text[from : from+length]}
}

// join adds op behind ops, or makes one of it and the last, where the two may not stand side by side.
func join(ops []api.Op, op api.Op) []api.Op {
	last := len(ops) - 1
	if last < 0 || mayFollow(ops[last], op) {
		// A clone, so that the answer shares no memory with what was handed in.
		op.Text = strings.Clone(op.Text)
		return append(ops, op)
	}
	ops[last].Len += op.Len
	ops[last].Text += op.Text
	return ops
}
