package record

import (
	"strings"
	"testing"

	"coffer/api"
	"coffer/code"
	"coffer/history"
)

func checkBytes(t *testing.T, name string, r Record, body string) {
	t.Helper()
	if got := string(r.body()); got != body {
		t.Errorf("P8: the body of %s = %.40x, want %.40x", name, got, body)
	}
}

func TestBodiesOfTheKinds(t *testing.T) {
	checkBytes(t, "a text", Full(0, "a"), "F\x00a")
	checkBytes(t, "an empty text", Full(3, ""), "F\x03")
	checkBytes(t, "a difference", Difference(1, []api.Op{{From: 0, Len: 6}, {Text: "there"}}), "D\x01\x02\x0d\x00\x0athere")
	checkBytes(t, "an empty difference", Difference(2, nil), "D\x02\x00")
	checkBytes(t, "a beginning", Beginning(1, 1, "a"), "B\x01\x01a")
	checkBytes(t, "an empty beginning", Beginning(1, 128, ""), "B\x01\x80\x01")
	checkBytes(t, "a beginning at the greatest number", Beginning(3, 1<<31-1, "a"), "B\x03\xff\xff\xff\xff\x07a")
	checkBytes(t, "a prune", Prune(3, 4), "P\x03\x04")
	checkBytes(t, "a prune at 128", Prune(3, 128), "P\x03\x80\x01")
	checkBytes(t, "a prune at the greatest number", Prune(0, 1<<31-1), "P\x00\xff\xff\xff\xff\x07")
}

func TestLengthAndSumStandAroundTheBody(t *testing.T) {
	// the sum's own example has this text as body, so the four bytes are those of cbf43926
	if got := wrapped("123456789"); got != "\x09123456789\x26\x39\xf4\xcb" {
		t.Errorf("P8: the record = %x", got)
	}
	for length, want := range map[int]string{0: "\x00", 1: "\x01", 127: "\x7f", 128: "\x80\x01", 2002: "\xd2\x0f"} {
		body := strings.Repeat("x", length)
		got := wrapped(body)
		if !strings.HasPrefix(got, want+body) || len(got) != len(want)+length+sumSize {
			t.Errorf("P8: the record of %d bytes begins with %.4x and has %d bytes", length, got, len(got))
		}
	}
}

func wrapped(body string) string { return string(wrap([]byte(body))) }

// read tells the next record, or that there is none.
func read(r *code.Reader) (next Record, good bool) {
	defer func() {
		if _, gaveUp := recover().(code.Fault); gaveUp {
			next, good = nil, false
		}
	}()
	return Read(r), true
}

func TestReadIsTheWayBack(t *testing.T) {
	long := strings.Repeat("x", api.MaxText)
	for _, want := range []Record{
		Full(0, ""), Full(3, "a"), Full(1, long),
		Difference(0, nil), Difference(2, []api.Op{{From: 0, Len: 6}, {Text: "there"}}),
		Beginning(0, 1, ""), Beginning(3, 1<<31-1, long), Prune(0, 0), Prune(2, 1), Prune(3, 1<<31-1),
	} {
		bytes := string(Bytes(want))
		r := code.NewReader(bytes + "behind")
		got, good := read(r)
		if !good || string(Bytes(got)) != bytes || got.Chain() != want.Chain() || r.At() != len(bytes) {
			t.Errorf("P9: of %.40x is read %.40v, up to %d", bytes, got, r.At())
		}
	}
}

func TestReadOfNone(t *testing.T) {
	long := strings.Repeat("x", api.MaxText+1)
	good := string(Bytes(Full(0, "a")))
	bytes := []string{"", "\x80", "\xff\xff\xff\xff\x07", "\x83\x00" + good[1:], "\x02" + good[1:], "\x04" + good[1:], good[:4] + "\x00\x00\x00\x00"}
	for n := range len(good) {
		bytes = append(bytes, good[:n])
	}
	for _, body := range []string{
		"", "F", "F\x04", "F\x80\x00", "F\x80", "f\x00a", "\x00\x00", "F\x00" + long,
		"D\x00", "D\x00\x01", "D\x00\x01\x00", "D\x00\x00\x00", "D\x04\x00", "D\x00\x02\x02a\x02b",
		"B\x00", "B\x00\x00", "B\x00\x00a", "B\x00\x80", "B\x00\x81\x00a", "B\x00\x80\x80\x80\x80\x08a", "B\x04\x01a", "B\x00\x01" + long,
		"P\x00", "P\x00\x80", "P\x00\x81\x00", "P\x00\x01\x00", "P\x04\x01",
	} {
		bytes = append(bytes, wrapped(body))
	}
	for _, none := range bytes {
		if got, isOne := read(code.NewReader(none)); isOne {
			t.Errorf("P9: of %.40x is read %.40v", none, got)
		}
	}
}

func TestDo(t *testing.T) {
	reaching := Difference(0, []api.Op{{From: 0, Len: 7}})
	within := Difference(0, []api.Op{{From: 1, Len: 5}})
	v := &history.Versions{}
	for _, step := range []struct {
		name        string
		record      Record
		want        bool
		first, last int
		text        string
	}{
		{"a prune of none", Prune(0, 1), false, 0, 0, ""},
		{"a difference from none", Difference(0, nil), false, 0, 0, ""},
		{"a beginning", Beginning(0, 1<<31-3, "abcdef"), true, 1<<31 - 3, 1<<31 - 3, "abcdef"},
		{"another beginning", Beginning(0, 1, "b"), false, 1<<31 - 3, 1<<31 - 3, "abcdef"},
		{"a difference that reaches too far", reaching, false, 1<<31 - 3, 1<<31 - 3, "abcdef"},
		{"a difference", within, true, 1<<31 - 3, 1<<31 - 2, "bcdef"},
		{"the same from a shorter one", within, false, 1<<31 - 3, 1<<31 - 2, "bcdef"},
		{"a prune ahead", Prune(0, 1<<31-4), false, 1<<31 - 3, 1<<31 - 2, "bcdef"},
		{"a prune behind", Prune(0, 1<<31-1), false, 1<<31 - 3, 1<<31 - 2, "bcdef"},
		{"a text", Full(0, "c"), true, 1<<31 - 3, 1<<31 - 1, "c"},
		{"a text behind the greatest number", Full(0, "d"), false, 1<<31 - 3, 1<<31 - 1, "c"},
		{"a difference behind the greatest number", Difference(0, nil), false, 1<<31 - 3, 1<<31 - 1, "c"},
		{"a prune", Prune(0, 1<<31-2), true, 1<<31 - 2, 1<<31 - 1, "c"},
		{"a prune of what is gone", Prune(0, 1<<31-3), false, 1<<31 - 2, 1<<31 - 1, "c"},
	} {
		if got := step.record.Do(v); got != step.want {
			t.Errorf("P9: %s = %t", step.name, got)
		}
		if v.First() != step.first || v.Last() != step.last {
			t.Fatalf("P9: behind %s the versions are %d to %d", step.name, v.First(), v.Last())
		}
		if v.Last() > 0 && v.Text(v.Last()) != step.text {
			t.Errorf("P9: behind %s the last one is %q", step.name, v.Text(v.Last()))
		}
	}
}
