package store

import (
	"coffer/history"
	"coffer/record"
)

// Squash tells the versions that there are by a log of their own, unless that is longer than the one that there is.
func (s *Store) Squash() {
	var log []byte
	for chain := range s.chains {
		log = addAll(log, chain, &s.chains[chain])
	}
	if len(log) <= len(s.log) {
		s.log = log
	}
}

// addAll adds the records of all versions of a chain.
func addAll(log []byte, chain int, there *history.Versions) []byte {
	if there.Count() == 0 {
		return log
	}
	first := there.First()
	ahead := there.Text(first)
	log = append(log, record.Bytes(record.Beginning(chain, first, ahead))...)
	// By how many there are, not up to the last one: the number behind that one may be beyond the greatest int.
	for i := 1; i < there.Count(); i++ {
		text := there.Text(first + i)
		log = append(log, further(chain, ahead, text)...)
		ahead = text
	}
	return log
}
