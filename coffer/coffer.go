// Package coffer: versions of texts in a log: see DOC.md.
package coffer

import (
	"coffer/api"
	"coffer/delta"
	"coffer/store"
	"coffer/sum"
)

// Diff makes a delta from one text to another (P3).
func Diff(base string, next string) ([]api.Op, api.Errno) { return delta.Diff(base, next) }

// Apply makes a text of a base and a delta (P3).
func Apply(base string, ops []api.Op) (string, api.Errno, int) { return delta.Apply(base, ops) }

// Compose makes one delta of two (P4).
func Compose(first []api.Op, second []api.Op) ([]api.Op, api.Errno, int) {
	return delta.Compose(first, second)
}

// Encode makes bytes of a delta (P5).
func Encode(ops []api.Op) (string, api.Errno, int) { return delta.Encode(ops) }

// Decode makes a delta of bytes (P5).
func Decode(code string) ([]api.Op, api.Errno, int) { return decode(code) }

// Sum is the check sum of bytes (P6).
func Sum(bytes string) uint32 { return sum.Of(bytes) }

// Vault is chains of versions.
type Vault struct {
	store store.Store
}

// New makes an empty one (P7).
func New() *Vault { return &Vault{} }

// Open makes one of a log, or of as much of it as is whole (P9).
func Open(log string) (*Vault, api.Errno, int) { return open(log) }

// Backup adds a version (P7).
func (v *Vault) Backup(chain int, text string) (int, api.Errno) { return v.store.Backup(chain, text) }

// Restore tells a version (P7).
func (v *Vault) Restore(chain int, version int) (string, api.Errno) {
	return v.store.Restore(chain, version)
}

// Versions tells the first and the last version of a chain (P7).
func (v *Vault) Versions(chain int) (int, int, api.Errno) { return v.store.Versions(chain) }

// Prune takes the versions ahead of one away (P7).
func (v *Vault) Prune(chain int, version int) api.Errno { return v.store.Prune(chain, version) }

// Squash makes the log as short as it can (P10).
func (v *Vault) Squash() { v.store.Squash() }

// Log tells all that is kept, as bytes (P8).
func (v *Vault) Log() string { return v.store.Log() }
