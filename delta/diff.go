// Package delta makes deltas, rows of ops that make one text of another, applies and composes them, and writes and reads their codes.
package delta

import (
	"strings"

	"coffer/api"
)

// Diff makes the delta that leads from base to next.
func Diff(base string, next string) ([]api.Op, api.Errno) {
	if len(base) > api.MaxText || len(next) > api.MaxText {
		return nil, api.ErrLong
	}
	ops := describe(base, next)
	if len(ops) > api.MaxOps {
		ops = addText(nil, next)
	}
	return ops, api.OK
}

// describe goes through next from the front, whatever number of ops that takes.
func describe(base string, next string) []api.Op {
	places := firstPlaces(base)
	var ops []api.Op
	textStart, at := 0, 0
	for at+api.MinCopy <= len(next) {
		from, found := places[next[at:at+api.MinCopy]]
		if !found {
			at++
			continue
		}
		ops = addText(ops, next[textStart:at])
		length := sameBytes(base[from:], next[at:])
		ops = append(ops, api.Op{From: from, Len: length})
		at += length
		textStart = at
	}
	return addText(ops, next[textStart:])
}

// firstPlaces tells of each stretch of MinCopy bytes where it stands first in base.
func firstPlaces(base string) map[string]int {
	places := map[string]int{}
	// From the end on, so that the place that stays is the first one.
	for at := len(base) - api.MinCopy; at >= 0; at-- {
		places[base[at:at+api.MinCopy]] = at
	}
	return places
}

// sameBytes counts how many bytes two texts have in common from their fronts on.
func sameBytes(a string, b string) int {
	n := 0
	for n < len(a) && n < len(b) && a[n] == b[n] {
		n++
	}
	return n
}

// addText adds a TEXT, or nothing for an empty one, which would be no op.
func addText(ops []api.Op, text string) []api.Op {
	if text == "" {
		return ops
	}
	// A clone, so that the answer shares no memory with what was handed in.
	return append(ops, api.Op{Text: strings.Clone(text)})
}
