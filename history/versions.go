// Package history keeps the versions of a chain.
package history

import (
	"slices"
	"strings"

	"coffer/code"
)

// MaxVersion is the greatest number of a version: records can say no greater one.
const MaxVersion = code.MaxNumber

// Versions are those of a chain that there are, in their order, behind those that are gone.
// Where there have been any, the last one is always there.
type Versions struct {
	gone  int
	texts []string
}

// First is the number of the first version that there is; 0 where there is none.
func (v *Versions) First() int { return min(v.gone+1, v.Last()) }

// Last is the number of the last version; 0 where there is none.
func (v *Versions) Last() int { return v.gone + len(v.texts) }

// Count is how many versions there are.
func (v *Versions) Count() int { return len(v.texts) }

// Has tells whether a version is there.
func (v *Versions) Has(version int) bool { return version > v.gone && version <= v.Last() }

// Text is that of a version that is there.
func (v *Versions) Text(version int) string { return v.texts[version-v.gone-1] }

// Begin makes a text the first version, with a number from 1 to MaxVersion.
// It tells false, and does nothing, where there has been any version.
func (v *Versions) Begin(version int, text string) bool {
	if v.Last() > 0 {
		return false
	}
	v.gone = version - 1
	return v.Add(text)
}

// Add adds a version behind the last one. It tells false, and does nothing, where no number is left for it.
func (v *Versions) Add(text string) bool {
	if v.Last() == MaxVersion {
		return false
	}
	// A clone: what is handed in is not kept.
	v.texts = append(v.texts, strings.Clone(text))
	return true
}

// DropAhead takes away what stands ahead of a version. It tells false, and does nothing, where that is not there.
func (v *Versions) DropAhead(version int) bool {
	if !v.Has(version) {
		return false
	}
	going := version - v.gone - 1
	// A clone, so that nothing of those that go is kept.
	v.texts = slices.Clone(v.texts[going:])
	v.gone += going
	return true
}
