package record

import (
	"strings"
	"testing"

	"coffer/api"
)

func checkBytes(t *testing.T, name string, r Record, body string) {
	t.Helper()
	if got := string(r.body()); got != body {
		t.Errorf("P8: the body of %s = %.40x, want %.40x", name, got, body)
	}
}

func TestBodiesOfTheKinds(t *testing.T) {
	checkBytes(t, "a text", Full(0, "a"), "F\x00a")
	checkBytes(t, "an empty text", Full(3, ""), "F\x03")
	checkBytes(t, "a difference", Difference(1, []api.Op{{From: 0, Len: 6}, {Text: "there"}}), "D\x01\x02\x0d\x00\x0athere")
	checkBytes(t, "an empty difference", Difference(2, nil), "D\x02\x00")
	checkBytes(t, "a prune", Prune(3, 4), "P\x03\x04")
	checkBytes(t, "a prune at 128", Prune(3, 128), "P\x03\x80\x01")
	checkBytes(t, "a prune at the greatest number", Prune(0, 1<<31-1), "P\x00\xff\xff\xff\xff\x07")
}

func TestLengthAndSumStandAroundTheBody(t *testing.T) {
	// the sum's own example has this text as body, so the four bytes are those of cbf43926
	if got := string(Bytes(plain("123456789"))); got != "\x09123456789\x26\x39\xf4\xcb" {
		t.Errorf("P8: the record = %x", got)
	}
	for length, want := range map[int]string{0: "\x00", 1: "\x01", 127: "\x7f", 128: "\x80\x01", 2002: "\xd2\x0f"} {
		body := strings.Repeat("x", length)
		got := string(Bytes(plain(body)))
		if !strings.HasPrefix(got, want+body) || len(got) != len(want)+length+sumBytes {
			t.Errorf("P8: the record of %d bytes begins with %.4x and has %d bytes", length, got, len(got))
		}
	}
}

// plain is a kind without a head, for bodies of any bytes.
type plain string

func (p plain) body() []byte { return []byte(p) }
