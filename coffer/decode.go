package coffer

import (
	"coffer/api"
	"coffer/code"
	"coffer/delta"
)

// decode is where a reading that gave up deep inside becomes an answer.
func decode(bytes string) (ops []api.Op, errno api.Errno, at int) {
	defer func() {
		switch fault := recover().(type) {
		case nil:
		case code.Fault:
			ops, errno, at = nil, api.ErrCode, fault.At
		default:
			// Nothing else gives up on purpose: it must not pass for an answer.
			panic(fault)
		}
	}()
	r := code.NewReader(bytes)
	ops = delta.Read(r)
	r.End()
	return ops, api.OK, 0
}
