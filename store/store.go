// Package store keeps chains of versions, and the log that tells how they came about.
package store

import (
	"strings"

	"coffer/api"
	"coffer/delta"
	"coffer/record"
)

// Store is a log, and the versions that its records make.
type Store struct {
	log    []byte
	chains [api.MaxChains]versions
}

// Backup adds a version and tells its number.
func (s *Store) Backup(chain int, text string) (int, api.Errno) {
	if !isChain(chain) {
		return 0, api.ErrChain
	}
	if len(text) > api.MaxText {
		return 0, api.ErrLong
	}
	there := &s.chains[chain]
	// There must be room for the whole text, even where its difference is what is added then.
	added := record.Bytes(record.Full(chain, text))
	if !s.hasRoom(added) || there.last() == maxVersion {
		return 0, api.ErrFull
	}
	if last := there.last(); last > 0 {
		added = shorter(added, difference(chain, there.text(last), text))
	}
	s.log = append(s.log, added...)
	there.add(text)
	return there.last(), api.OK
}

// Restore tells the text of a version.
func (s *Store) Restore(chain int, version int) (string, api.Errno) {
	if !isChain(chain) {
		return "", api.ErrChain
	}
	there := &s.chains[chain]
	if !there.has(version) {
		return "", api.ErrNone
	}
	// A clone, so that the answer shares no memory with what is kept.
	return strings.Clone(there.text(version)), api.OK
}

// Versions tells the first and the last version of a chain.
func (s *Store) Versions(chain int) (int, int, api.Errno) {
	if !isChain(chain) {
		return 0, 0, api.ErrChain
	}
	there := &s.chains[chain]
	return there.first(), there.last(), api.OK
}

// Prune takes the versions ahead of one away.
func (s *Store) Prune(chain int, version int) api.Errno {
	if !isChain(chain) {
		return api.ErrChain
	}
	there := &s.chains[chain]
	if !there.has(version) {
		return api.ErrNone
	}
	added := record.Bytes(record.Prune(chain, version))
	if !s.hasRoom(added) {
		return api.ErrFull
	}
	s.log = append(s.log, added...)
	there.dropAhead(version)
	return api.OK
}

// Log tells the log.
func (s *Store) Log() string { return string(s.log) }

func isChain(chain int) bool { return chain >= 0 && chain < api.MaxChains }

func (s *Store) hasRoom(added []byte) bool { return len(s.log)+len(added) <= api.MaxLog }

// difference is the record of a text behind the one ahead.
func difference(chain int, ahead string, text string) []byte {
	// Neither is too long: the one ahead is kept, and the other has been looked at.
	ops, _ := delta.Diff(ahead, text)
	return record.Bytes(record.Difference(chain, ops))
}

// shorter is the difference only where that spares something.
func shorter(full []byte, difference []byte) []byte {
	if len(difference) < len(full) {
		return difference
	}
	return full
}
