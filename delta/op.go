package delta

import "coffer/api"

func isCopy(op api.Op) bool { return op.Len > 0 }

// size is how many bytes an op makes.
func size(op api.Op) int {
	if isCopy(op) {
		return op.Len
	}
	return len(op.Text)
}

// sizeOfAll is how many bytes the ops of a delta make.
func sizeOfAll(ops []api.Op) int {
	total := 0
	for _, op := range ops {
		total += size(op)
	}
	return total
}

// isOp tells whether op is one for a base of that many bytes.
func isOp(op api.Op, baseSize int) bool {
	if isCopy(op) {
		// Not From+Len: the two together may be beyond the greatest int.
		return op.From >= 0 && op.Text == "" && op.From <= baseSize-op.Len
	}
	return op.Text != "" && op.From == 0 && op.Len == 0
}

// mayFollow tells whether op may stand right behind before; both are ops.
func mayFollow(before api.Op, op api.Op) bool {
	if isCopy(before) != isCopy(op) {
		return true
	}
	return isCopy(op) && op.From != before.From+before.Len
}

// firstFault is the number of the first op with which ops are no delta for a base of that many bytes;
// how many ops there are, if they are one.
func firstFault(ops []api.Op, baseSize int) int {
	made := 0
	for i, op := range ops {
		if i == api.MaxOps || !isOp(op, baseSize) {
			return i
		}
		if i > 0 && !mayFollow(ops[i-1], op) {
			return i
		}
		if size(op) > api.MaxText-made {
			return i
		}
		made += size(op)
	}
	return len(ops)
}
