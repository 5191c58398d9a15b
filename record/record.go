// Package record makes the records that a log is made of.
package record

import (
	"coffer/code"
	"coffer/sum"
)

const sumBytes = 4

// Record is one of the kinds.
type Record interface {
	body() []byte
}

// Bytes is the record as it stands in a log.
func Bytes(r Record) []byte {
	body := r.body()
	bytes := code.AddNumber(nil, len(body))
	bytes = append(bytes, body...)
	return addSum(bytes, sum.Of(string(body)))
}

func addSum(bytes []byte, bits uint32) []byte {
	for range sumBytes {
		bytes = append(bytes, byte(bits))
		bits >>= 8
	}
	return bytes
}
