package record

import (
	"coffer/api"
	"coffer/code"
	"coffer/delta"
)

// head is what the bodies of all kinds begin with.
type head struct {
	letter byte
	chain  int
}

// begin begins a body; the kinds write what they have beside the head behind it.
func (h head) begin() []byte {
	return code.AddNumber([]byte{h.letter}, h.chain)
}

type full struct {
	head
	text string
}

// Full is the record of one version more, as a whole.
func Full(chain int, text string) Record {
	return full{head{'F', chain}, text}
}

func (f full) body() []byte {
	return append(f.begin(), f.text...)
}

type difference struct {
	head
	ops []api.Op
}

// Difference is the record of one version more, by the delta that leads to it from the last one.
func Difference(chain int, ops []api.Op) Record {
	return difference{head{'D', chain}, ops}
}

func (d difference) body() []byte {
	return delta.AddCode(d.begin(), d.ops)
}

type prune struct {
	head
	version int
}

// Prune is the record by which the versions ahead of one go.
func Prune(chain int, version int) Record {
	return prune{head{'P', chain}, version}
}

func (p prune) body() []byte {
	return code.AddNumber(p.begin(), p.version)
}
