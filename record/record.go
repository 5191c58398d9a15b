// Package record makes the records that a log is made of, reads them, and does what they say.
package record

import (
	"coffer/code"
	"coffer/history"
	"coffer/sum"
)

const sumSize = 4

// Record is one of the kinds.
type Record interface {
	// Chain is the one that the record is about.
	Chain() int
	// Do does what the record says to the versions of its chain. It tells false, and does nothing, where that can't be.
	Do(there *history.Versions) bool
	body() []byte
}

// Bytes is the record as it stands in a log.
func Bytes(r Record) []byte { return wrap(r.body()) }

func wrap(body []byte) []byte {
	bytes := code.AddNumber(nil, len(body))
	bytes = append(bytes, body...)
	return append(bytes, sumOf(string(body))...)
}

// sumOf is the sum of a body as it stands behind it.
func sumOf(body string) string {
	var bytes [sumSize]byte
	bits := sum.Of(body)
	for i := range bytes {
		bytes[i] = byte(bits)
		bits >>= 8
	}
	return string(bytes[:])
}
