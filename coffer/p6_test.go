package coffer_test

import (
	"hash/crc32"
	"strings"
	"testing"

	"coffer/coffer"
)

func TestP6KnownSums(t *testing.T) {
	for _, c := range []struct {
		bytes string
		want  uint32
	}{
		{"", 0}, {"123456789", 0xcbf43926}, {"a", 0xe8b7be43}, {"\x00", 0xd202ef8d}, {"\xff", 0xff000000}, {"\xff\xff\xff\xff", 0xffffffff},
	} {
		if got := coffer.Sum(c.bytes); got != c.want {
			t.Errorf("P6: Sum(%q) = %x, want %x", c.bytes, got, c.want)
		}
	}
}

func TestP6SumsOfOddTexts(t *testing.T) {
	for _, s := range append(oddTexts(), strings.Repeat("é\xff\x00", 999)) {
		if got, want := coffer.Sum(s), crc32.ChecksumIEEE([]byte(s)); got != want {
			t.Errorf("P6: Sum(%.20q), %d bytes = %x, want %x", s, len(s), got, want)
		}
	}
}

func TestP6FindsEachChangeOfOneByte(t *testing.T) {
	const was = "versions of texts"
	for i := range len(was) {
		for b := range 256 {
			is := was[:i] + string([]byte{byte(b)}) + was[i+1:]
			if is != was && coffer.Sum(is) == coffer.Sum(was) {
				t.Errorf("P6: %q and %q have one sum", is, was)
			}
		}
	}
}
