package store

import (
	"slices"
	"strings"

	"coffer/code"
)

// maxVersion is the greatest number of a version: records can say no greater one.
const maxVersion = code.MaxNumber

// versions are those of a chain that there are, in their order, behind those that are gone.
// Where there have been any, the last one is always there.
type versions struct {
	gone  int
	texts []string
}

// first is 0 where there is none.
func (v *versions) first() int { return min(v.gone+1, v.last()) }

// last is 0 where there is none.
func (v *versions) last() int { return v.gone + len(v.texts) }

func (v *versions) has(version int) bool { return version > v.gone && version <= v.last() }

// text is that of a version that is there.
func (v *versions) text(version int) string { return v.texts[version-v.gone-1] }

func (v *versions) add(text string) {
	// A clone: what is handed in is not kept.
	v.texts = append(v.texts, strings.Clone(text))
}

// dropAhead takes away what stands ahead of a version that is there.
func (v *versions) dropAhead(version int) {
	going := version - v.gone - 1
	// A clone, so that nothing of those that go is kept.
	v.texts = slices.Clone(v.texts[going:])
	v.gone += going
}
