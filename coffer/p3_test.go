package coffer_test

import (
	"math/rand"
	"slices"
	"strings"
	"testing"

	"coffer/api"
	"coffer/coffer"
)

func checkDiff(t *testing.T, base, next string, want []api.Op) {
	t.Helper()
	if got, e := coffer.Diff(base, next); !slices.Equal(got, want) || e != api.OK {
		t.Errorf("P3: Diff(%.40q, %.40q) = %s, %d, want %s", base, next, short(got), e, short(want))
	}
}

func checkApply(t *testing.T, base string, ops []api.Op, want string, wantErr api.Errno, wantAt int) {
	t.Helper()
	if got, e, at := coffer.Apply(base, ops); got != want || e != wantErr || at != wantAt {
		t.Errorf("P3: Apply(%.40q, %s) = %.40q, %d, %d, want %.40q, %d, %d", base, short(ops), got, e, at, want, wantErr, wantAt)
	}
}

func TestP3DiffOrdinary(t *testing.T) {
	checkDiff(t, "the quick brown fox", "the quick red fox", []api.Op{part(0, 10), text("red fox")})
	checkDiff(t, "one line\nanother line\n", "another line\none line\n", []api.Op{part(9, 13), part(0, 9)})
	checkDiff(t, "a text of bytes", "A text of bytes!", []api.Op{text("A"), part(1, 14), text("!")})
	checkDiff(t, "\x00\x01\x02\x03\x04\xff\xfe\xfd", "\xff\x00\x01\x02\x03\x04\xff\xfe\xfd", []api.Op{text("\xff"), part(0, 8)})
}

func TestP3DiffOfNothing(t *testing.T) {
	checkDiff(t, "", "", nil)
	checkDiff(t, "something", "", nil)
	checkDiff(t, "", "something", []api.Op{text("something")})
}

func TestP3DiffMinCopy(t *testing.T) {
	checkDiff(t, "1234567", "1234567", []api.Op{text("1234567")})
	checkDiff(t, "12345678", "12345678", []api.Op{part(0, 8)})
	checkDiff(t, "-12345678-", "+1234567+", []api.Op{text("+1234567+")})
	checkDiff(t, "-12345678-", "+12345678+", []api.Op{text("+"), part(1, 8), text("+")})
	// the seven bytes behind the COPY stand in base too, but are too few
	checkDiff(t, "12345678abcdefg", "12345678-abcdefg", []api.Op{part(0, 8), text("-abcdefg")})
}

func TestP3DiffTakesTheFirstPlace(t *testing.T) {
	// the second place would give the longer COPY
	checkDiff(t, "12345678a12345678bc", "12345678bc", []api.Op{part(0, 8), text("bc")})
	checkDiff(t, "12345678a12345678bcdefghi", "12345678bcdefghi", []api.Op{part(0, 8), part(17, 8)})
	checkDiff(t, strings.Repeat("a", 9), strings.Repeat("a", 20), []api.Op{part(0, 9), part(0, 9), text("aa")})
	// a COPY begins as soon as it can, though one byte later a longer one would
	checkDiff(t, "x1234567|1234567890", "x1234567890", []api.Op{part(0, 8), text("890")})
}

func TestP3DiffLong(t *testing.T) {
	full := strings.Repeat("x", api.MaxText)
	long := full + "x"
	checkDiff(t, full, full, []api.Op{part(0, api.MaxText)})
	checkDiff(t, "", full, []api.Op{text(full)})
	checkDiff(t, full, "", nil)
	for _, c := range [][2]string{{long, ""}, {"", long}, {long, full}, {full, long}, {long, long}} {
		if l, e := coffer.Diff(c[0], c[1]); len(l) != 0 || e != api.ErrLong {
			t.Errorf("P3: Diff of %d and %d bytes = %s, %d", len(c[0]), len(c[1]), short(l), e)
		}
	}
}

func TestP3DiffManyOps(t *testing.T) {
	const base = "01234567"
	pairs := slices.Repeat([]api.Op{part(0, 8), text("-")}, api.MaxOps/2)
	full := strings.Repeat(base+"-", api.MaxOps/2)
	checkDiff(t, base, full, pairs)
	checkDiff(t, base, full+"-", append(slices.Clone(pairs[:api.MaxOps-1]), text("--")))
	for _, next := range []string{full + base, "-" + full, full + base + "-"} {
		checkDiff(t, base, next, []api.Op{text(next)})
	}
	checkDiff(t, base, strings.Repeat(base, api.MaxOps), slices.Repeat([]api.Op{part(0, 8)}, api.MaxOps))
	next := strings.Repeat(base, api.MaxOps+1)
	checkDiff(t, base, next, []api.Op{text(next)})
}

func TestP3ApplyOrdinary(t *testing.T) {
	checkApply(t, "hello world", []api.Op{part(0, 6), text("there")}, "hello there", api.OK, 0)
	checkApply(t, "hello world", nil, "", api.OK, 0)
	checkApply(t, "", []api.Op{text("\x00\xff")}, "\x00\xff", api.OK, 0)
	checkApply(t, "abcdef", []api.Op{part(3, 3), text("-"), part(0, 3), part(2, 2), part(2, 2)}, "def-abccdcd", api.OK, 0)
	// it begins ahead of where the first one ends, or behind
	checkApply(t, "abcdef", []api.Op{part(0, 3), part(2, 3)}, "abccde", api.OK, 0)
	checkApply(t, "abcdef", []api.Op{part(0, 3), part(4, 2)}, "abcef", api.OK, 0)
	// a TEXT between makes COPYs that go on a delta
	checkApply(t, "abcdef", []api.Op{part(0, 3), text("-"), part(3, 3)}, "abc-def", api.OK, 0)
}

func TestP3ApplyOfNoOp(t *testing.T) {
	for _, op := range []api.Op{
		{}, {From: 1}, {From: -1}, {Len: -1}, {From: 1, Len: -1},
		{Len: 1, Text: "x"}, {From: 1, Text: "x"}, {From: -1, Text: "x"}, {Len: -1, Text: "x"},
		{From: -1, Len: 1}, {From: least, Len: 1}, {From: least, Len: greatest},
		{Len: 7}, {From: 6, Len: 1}, {From: 5, Len: 2}, {From: 7, Len: 1},
		{Len: greatest}, {From: greatest, Len: 1}, {From: 1, Len: greatest}, {From: greatest, Len: greatest},
	} {
		checkApply(t, "abcdef", []api.Op{op}, "", api.ErrOp, 0)
		checkApply(t, "abcdef", []api.Op{text("x"), part(0, 1), op, {}}, "", api.ErrOp, 2)
	}
}

func TestP3ApplyOfOpsThatAreNoDelta(t *testing.T) {
	checkApply(t, "abcdef", []api.Op{text("x"), text("y")}, "", api.ErrOp, 1)
	checkApply(t, "abcdef", []api.Op{part(0, 1), text("x"), text("x")}, "", api.ErrOp, 2)
	checkApply(t, "abcdef", []api.Op{part(0, 3), part(3, 3)}, "", api.ErrOp, 1)
	checkApply(t, "abcdef", []api.Op{part(4, 1), part(0, 3), part(3, 1), {}}, "", api.ErrOp, 2)
}

func TestP3ApplyManyOps(t *testing.T) {
	full := slices.Repeat([]api.Op{part(0, 1), text("x")}, api.MaxOps/2)
	checkApply(t, "abc", full, strings.Repeat("ax", api.MaxOps/2), api.OK, 0)
	checkApply(t, "abc", append(slices.Clone(full), part(0, 1)), "", api.ErrOp, api.MaxOps)
	checkApply(t, "abc", slices.Concat(full, full), "", api.ErrOp, api.MaxOps)
	// an op that is none comes ahead of the one that is too many
	spoilt := slices.Concat(full, full)
	spoilt[api.MaxOps-1] = api.Op{}
	checkApply(t, "abc", spoilt, "", api.ErrOp, api.MaxOps-1)
}

func TestP3ApplyManyBytes(t *testing.T) {
	full := strings.Repeat("x", api.MaxText)
	checkApply(t, full, []api.Op{part(0, api.MaxText)}, full, api.OK, 0)
	checkApply(t, "", []api.Op{text(full)}, full, api.OK, 0)
	checkApply(t, full, []api.Op{text("x"), part(0, api.MaxText-1)}, full, api.OK, 0)
	checkApply(t, full, []api.Op{text("x"), part(0, api.MaxText)}, "", api.ErrOp, 1)
	checkApply(t, full, []api.Op{part(0, api.MaxText), text("x")}, "", api.ErrOp, 1)
	checkApply(t, full, []api.Op{part(0, api.MaxText), part(0, 1)}, "", api.ErrOp, 1)
	checkApply(t, "", []api.Op{text(full + "x")}, "", api.ErrOp, 0)
	checkApply(t, full+"x", nil, "", api.ErrLong, 0)
}

// plainDiff follows the document's words by search alone, without a map.
func plainDiff(base, next string) []api.Op {
	var ops []api.Op
	pending := ""
	flush := func() {
		if pending != "" {
			ops = append(ops, text(pending))
		}
		pending = ""
	}
	for rest := next; rest != ""; {
		from := -1
		if len(rest) >= api.MinCopy {
			from = strings.Index(base, rest[:api.MinCopy])
		}
		if from < 0 {
			pending += rest[:1]
			rest = rest[1:]
			continue
		}
		flush()
		length := api.MinCopy
		for length < len(rest) && strings.HasPrefix(base[from:], rest[:length+1]) {
			length++
		}
		ops = append(ops, part(from, length))
		rest = rest[length:]
	}
	flush()
	if len(ops) > api.MaxOps {
		return []api.Op{text(next)}
	}
	return ops
}

// someText is n bytes of few letters, so that stretches stand again.
func someText(r *rand.Rand, n, letters int) string {
	bytes := make([]byte, n)
	for i := range bytes {
		bytes[i] = byte('a' + r.Intn(letters))
	}
	return string(bytes)
}

// someEdit strings pieces of base and new bytes together, up to MaxText.
func someEdit(r *rand.Rand, base string, letters int) string {
	next := ""
	for range r.Intn(30) {
		from := r.Intn(len(base) + 1)
		next += base[from : from+r.Intn(min(len(base)-from, 60)+1)]
		next += someText(r, r.Intn(4), letters)
	}
	return next[:min(len(next), api.MaxText)]
}

func TestP3DiffIsWhatTheWordsSayAndLeadsBack(t *testing.T) {
	r := rand.New(rand.NewSource(1))
	for range 3000 {
		letters := 1 + r.Intn(6)
		base := someText(r, r.Intn(300), letters)
		next := someEdit(r, base, letters)
		ops, _ := coffer.Diff(base, next)
		checkDiff(t, base, next, plainDiff(base, next))
		checkApply(t, base, ops, next, api.OK, 0)
	}
}
