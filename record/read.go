package record

import (
	"coffer/api"
	"coffer/code"
)

// Read reads the record that comes next. One that is none gives up by a panic with a code.Fault.
func Read(r *code.Reader) Record {
	start := r.At()
	length := r.Number()
	body := r.Text(length)
	if r.Text(sumSize) != sumOf(body) {
		code.GiveUp(start)
	}
	return readBody(body)
}

func readBody(body string) Record {
	r := code.NewReader(body)
	h := readHead(r)
	var read Record
	switch h.letter {
	case fullLetter:
		read = readFull(r, h)
	case differenceLetter:
		read = readDifference(r, h)
	case beginningLetter:
		read = readBeginning(r, h)
	case pruneLetter:
		read = readPrune(r, h)
	default:
		code.GiveUp(0)
	}
	r.End()
	return read
}

func readHead(r *code.Reader) head {
	letter := r.Byte()
	start := r.At()
	chain := r.Number()
	if chain >= api.MaxChains {
		code.GiveUp(start)
	}
	return head{letter, chain}
}

// readText reads all that is left: only the body's end says where a text ends.
func readText(r *code.Reader) string {
	start := r.At()
	text := r.Rest()
	if len(text) > api.MaxText {
		code.GiveUp(start)
	}
	return text
}
