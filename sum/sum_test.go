package sum

import (
	"hash/crc32"
	"strings"
	"testing"
)

// bitByBit follows the document's words without a table.
func bitByBit(bytes string) uint32 {
	bits := uint32(0xffffffff)
	for _, b := range []byte(bytes) {
		bits ^= uint32(b)
		for range 8 {
			fallen := bits & 1
			bits >>= 1
			if fallen == 1 {
				bits ^= 0xedb88320
			}
		}
	}
	return ^bits
}

func TestTableIsFilledAtTheStart(t *testing.T) {
	for i, want := range crc32.MakeTable(crc32.IEEE) {
		if table[i] != want {
			t.Errorf("P6: table[%d] = %x, want %x", i, table[i], want)
		}
	}
}

func TestOfIsTheRuleBitByBit(t *testing.T) {
	every := ""
	for b := range 256 {
		one := string([]byte{byte(b)})
		every += one
		if got, want := Of(one), bitByBit(one); got != want {
			t.Errorf("P6: the sum of the byte %x = %x, want %x", b, got, want)
		}
	}
	for _, text := range []string{"", every, every + every, strings.Repeat("\x00", 2000), strings.Repeat("\xff", 2000), strings.Repeat("coffer", 5000)} {
		if got, want := Of(text), bitByBit(text); got != want {
			t.Errorf("P6: the sum of %.20q = %x, want %x", text, got, want)
		}
	}
}
