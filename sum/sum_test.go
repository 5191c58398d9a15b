package sum

import (
	"hash/crc32"
	"strings"
	"testing"
)

// bitByBit follows the document's words without a table.
func bitByBit(bytes string) uint32 {
	bits := uint32(0xffffffff)
	for _, b := range []byte(bytes) {
		bits ^= uint32(b)
		for range 8 {
			fallen := bits & 1
			bits >>= 1
			if fallen == 1 {
				bits ^= 0xedb88320
			}
		}
	}
	return ^bits
}

func TestTableIsFilledAtTheStart(t *testing.T) {
	for i, want := range crc32.MakeTable(crc32.IEEE) {
		if table[i] != want {
			t.Errorf("P6: table[%d] = %x, want %x", i, table[i], want)
		}
	}
}

func checkSums(t *testing.T, bytes string) {
	t.Helper()
	want := bitByBit(bytes)
	if got := Of(bytes); got != want {
		t.Errorf("P6: the sum of %.20q = %x, want %x", bytes, got, want)
	}
	if got := ByTable(bytes); got != want {
		t.Errorf("P6: the sum of %.20q by the table = %x, want %x", bytes, got, want)
	}
}

func TestSumsAreTheRuleBitByBit(t *testing.T) {
	every := ""
	for b := range 256 {
		one := string([]byte{byte(b)})
		every += one
		checkSums(t, one)
	}
	for _, text := range []string{"", "123456789", every, every + every, strings.Repeat("\x00", 2000), strings.Repeat("\xff", 2000), strings.Repeat("coffer", 5000)} {
		checkSums(t, text)
	}
}

// spoilTable puts other numbers into the table for as long as a test runs.
func spoilTable(t *testing.T) {
	was := table
	t.Cleanup(func() { table = was })
	for i := range table {
		table[i] ^= 0x12345678
	}
}

func TestOfHangsOnNoVariable(t *testing.T) {
	spoilTable(t)
	if got := Of("123456789"); got != 0xcbf43926 {
		t.Errorf("P6: with another table the sum = %x", got)
	}
}

func TestByTableReadsTheTable(t *testing.T) {
	spoilTable(t)
	if got := ByTable("123456789"); got == 0xcbf43926 {
		t.Error("P6: another table makes no other sum")
	}
}
