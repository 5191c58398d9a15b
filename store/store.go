// Package store keeps chains of versions, and the log that tells how they came about.
package store

import (
	"strings"

	"coffer/api"
	"coffer/delta"
	"coffer/history"
	"coffer/record"
)

// Store is a log, and the versions that its records make.
type Store struct {
	log    []byte
	chains [api.MaxChains]history.Versions
}

// Backup adds a version and tells its number.
func (s *Store) Backup(chain int, text string) (int, api.Errno) {
	if !isChain(chain) {
		return 0, api.ErrChain
	}
	if len(text) > api.MaxText {
		return 0, api.ErrLong
	}
	there := &s.chains[chain]
	// There must be room for the whole text, even where its difference is what is added then.
	added := full(chain, text)
	last := there.Last()
	if !s.hasRoom(added) || last == history.MaxVersion {
		return 0, api.ErrFull
	}
	if last > 0 {
		added = further(chain, there.Text(last), text)
	}
	s.log = append(s.log, added...)
	there.Add(text)
	return there.Last(), api.OK
}

// Restore tells the text of a version.
func (s *Store) Restore(chain int, version int) (string, api.Errno) {
	if !isChain(chain) {
		return "", api.ErrChain
	}
	there := &s.chains[chain]
	if !there.Has(version) {
		return "", api.ErrNone
	}
	// A clone, so that the answer shares no memory with what is kept.
	return strings.Clone(there.Text(version)), api.OK
}

// Versions tells the first and the last version of a chain.
func (s *Store) Versions(chain int) (int, int, api.Errno) {
	if !isChain(chain) {
		return 0, 0, api.ErrChain
	}
	there := &s.chains[chain]
	return there.First(), there.Last(), api.OK
}

// Prune takes the versions ahead of one away.
func (s *Store) Prune(chain int, version int) api.Errno {
	if !isChain(chain) {
		return api.ErrChain
	}
	there := &s.chains[chain]
	if !there.Has(version) {
		return api.ErrNone
	}
	added := record.Bytes(record.Prune(chain, version))
	if !s.hasRoom(added) {
		return api.ErrFull
	}
	s.log = append(s.log, added...)
	there.DropAhead(version)
	return api.OK
}

// Log tells the log.
func (s *Store) Log() string { return string(s.log) }

func isChain(chain int) bool { return chain >= 0 && chain < api.MaxChains }

func (s *Store) hasRoom(added []byte) bool { return len(s.log)+len(added) <= api.MaxLog }

// full is the record of a text as a whole.
func full(chain int, text string) []byte {
	return record.Bytes(record.Full(chain, text))
}

// further is the record of a text behind the one ahead: its difference only where that spares something.
func further(chain int, ahead string, text string) []byte {
	return shorter(full(chain, text), difference(chain, ahead, text))
}

// difference is the record of how a text differs from the one ahead.
func difference(chain int, ahead string, text string) []byte {
	// Neither is too long: the one ahead is kept, and the other is kept too or has been looked at.
	ops, _ := delta.Diff(ahead, text)
	return record.Bytes(record.Difference(chain, ops))
}

func shorter(full []byte, difference []byte) []byte {
	if len(difference) < len(full) {
		return difference
	}
	return full
}
