// Package sum works out the check sum of bytes.
package sum

const (
	allOnes = 0xffffffff
	turner  = 0xedb88320
)

// table has, for each lowest byte, what eight moves to the right turn over.
var table [256]uint32

func init() {
	for i := range table {
		table[i] = eightMoves(uint32(i))
	}
}

// eightMoves goes bit by bit: this is the rule itself, and the table only remembers it.
func eightMoves(bits uint32) uint32 {
	for range 8 {
		fallen := bits & 1
		bits >>= 1
		if fallen == 1 {
			bits ^= turner
		}
	}
	return bits
}

// Of is the sum of all bytes of a string, worked out by the rule alone, so that it hangs on no variable.
func Of(bytes string) uint32 {
	bits := uint32(allOnes)
	for i := range len(bytes) {
		bits = eightMoves(bits ^ uint32(bytes[i]))
	}
	return bits ^ allOnes
}

// ByTable is the same sum, byte by byte: the table spares the eight moves.
func ByTable(bytes string) uint32 {
	bits := uint32(allOnes)
	for i := range len(bytes) {
		// The upper 24 bits are only moved within eight moves, so the lowest byte alone picks the entry.
		bits = table[byte(bits)^bytes[i]] ^ bits>>8
	}
	return bits ^ allOnes
}
