package store

import (
	"coffer/code"
	"coffer/record"
)

// Replay does what the records of a log say, and adds them to the log that there is.
// At the first one that is none it gives up by a panic with a code.Fault; what those ahead did stays.
func (s *Store) Replay(log string) {
	r := code.NewReader(log)
	for !r.AtEnd() {
		start := r.At()
		next := record.Read(r)
		if !next.Do(&s.chains[next.Chain()]) {
			code.GiveUp(start)
		}
		s.log = append(s.log, log[start:r.At()]...)
	}
}
