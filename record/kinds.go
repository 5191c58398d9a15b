package record

import (
	"coffer/api"
	"coffer/code"
	"coffer/delta"
	"coffer/history"
)

const (
	fullLetter       byte = 'F'
	differenceLetter byte = 'D'
	beginningLetter  byte = 'B'
	pruneLetter      byte = 'P'
)

// head is what the bodies of all kinds begin with.
type head struct {
	letter byte
	chain  int
}

// Chain is the one that the record is about.
func (h head) Chain() int { return h.chain }

// begin begins a body; the kinds write what they have beside the head behind it.
func (h head) begin() []byte {
	return code.AddNumber([]byte{h.letter}, h.chain)
}

type full struct {
	head
	text string
}

// Full is the record of one version more, as a whole.
func Full(chain int, text string) Record {
	return full{head{fullLetter, chain}, text}
}

func readFull(r *code.Reader, h head) Record { return full{h, readText(r)} }

func (f full) body() []byte {
	return append(f.begin(), f.text...)
}

func (f full) Do(there *history.Versions) bool { return there.Add(f.text) }

type difference struct {
	head
	ops []api.Op
}

// Difference is the record of one version more, by the delta that leads to it from the last one.
func Difference(chain int, ops []api.Op) Record {
	return difference{head{differenceLetter, chain}, ops}
}

func readDifference(r *code.Reader, h head) Record { return difference{h, delta.Read(r)} }

func (d difference) body() []byte {
	return delta.AddCode(d.begin(), d.ops)
}

func (d difference) Do(there *history.Versions) bool {
	last := there.Last()
	if last == 0 {
		return false
	}
	// A delta that can be read may still reach beyond the end of this one.
	text, errno, _ := delta.Apply(there.Text(last), d.ops)
	return errno == api.OK && there.Add(text)
}

type beginning struct {
	head
	version int
	text    string
}

// Beginning is the record of the first version that there is, with its number, as a whole.
func Beginning(chain int, version int, text string) Record {
	return beginning{head{beginningLetter, chain}, version, text}
}

func readBeginning(r *code.Reader, h head) Record {
	start := r.At()
	version := r.Number()
	if version == 0 {
		code.GiveUp(start)
	}
	return beginning{h, version, readText(r)}
}

func (b beginning) body() []byte {
	return append(code.AddNumber(b.begin(), b.version), b.text...)
}

func (b beginning) Do(there *history.Versions) bool { return there.Begin(b.version, b.text) }

type prune struct {
	head
	version int
}

// Prune is the record by which the versions ahead of one go.
func Prune(chain int, version int) Record {
	return prune{head{pruneLetter, chain}, version}
}

func readPrune(r *code.Reader, h head) Record { return prune{h, r.Number()} }

func (p prune) body() []byte {
	return code.AddNumber(p.begin(), p.version)
}

func (p prune) Do(there *history.Versions) bool { return there.DropAhead(p.version) }
