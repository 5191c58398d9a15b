package delta

import (
	"strings"

	"coffer/api"
)

// Apply makes what the ops make of base. With ErrOp the number is that of the first op that can't be.
func Apply(base string, ops []api.Op) (string, api.Errno, int) {
	if len(base) > api.MaxText {
		return "", api.ErrLong, 0
	}
	if at := firstFault(ops, len(base)); at < len(ops) {
		return "", api.ErrOp, at
	}
	var made strings.Builder
	for _, op := range ops {
		if isCopy(op) {
			made.WriteString(base[op.From : op.From+op.Len])
		} else {
			made.WriteString(op.Text)
		}
	}
	return made.String(), api.OK, 0
}
