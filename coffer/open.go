package coffer

import (
	"coffer/api"
	"coffer/code"
	"coffer/store"
)

func open(log string) (*Vault, api.Errno, int) {
	if len(log) > api.MaxLog {
		return nil, api.ErrLong, 0
	}
	v := New()
	replay(&v.store, log)
	// What is kept is as much of the log as was whole.
	return v, api.OK, len(v.Log())
}

// replay is where a reading that gave up deep inside ends: what was done until then stands.
func replay(s *store.Store, log string) {
	defer func() {
		switch fault := recover().(type) {
		case nil, code.Fault:
		default:
			// Nothing else gives up on purpose: it must not pass for the end of what is whole.
			panic(fault)
		}
	}()
	s.Replay(log)
}
