package code

import "strings"

// Fault is what a reading gives up with, by a panic: the place of what can't be read.
type Fault struct {
	At int
}

// GiveUp ends a reading, however deep inside it is, because of what stands at that place.
func GiveUp(at int) {
	panic(Fault{At: at})
}

// Reader goes through bytes from the front.
type Reader struct {
	bytes string
	at    int
}

// NewReader makes one that stands ahead of the first of the bytes.
func NewReader(bytes string) *Reader {
	return &Reader{bytes: bytes}
}

// At is the place of the byte that comes next.
func (r *Reader) At() int { return r.at }

// AtEnd tells whether nothing comes any more.
func (r *Reader) AtEnd() bool { return r.at == len(r.bytes) }

// Byte reads one byte.
func (r *Reader) Byte() byte {
	if r.AtEnd() {
		r.endTooSoon()
	}
	r.at++
	return r.bytes[r.at-1]
}

// Number reads a number. One that is none gives up at its first byte.
func (r *Reader) Number() int {
	start := r.at
	// More bits than an int is sure to have: five groups may say more than MaxNumber.
	number := uint64(0)
	for group := range maxGroups {
		b := r.Byte()
		number |= uint64(b%moreFollow) << (group * groupBits)
		if b >= moreFollow {
			continue
		}
		if b == 0 && group > 0 || number > MaxNumber {
			break
		}
		return int(number)
	}
	panic(Fault{At: start})
}

// Text reads so many bytes.
func (r *Reader) Text(length int) string {
	if length > len(r.bytes)-r.at {
		r.endTooSoon()
	}
	start := r.at
	r.at += length
	// A clone, so that what was read holds on to nothing that was handed in.
	return strings.Clone(r.bytes[start:r.at])
}

// Rest reads all bytes that are left.
func (r *Reader) Rest() string { return r.Text(len(r.bytes) - r.at) }

// End gives up if there is anything more.
func (r *Reader) End() {
	if !r.AtEnd() {
		GiveUp(r.at)
	}
}

func (r *Reader) endTooSoon() {
	GiveUp(len(r.bytes))
}
