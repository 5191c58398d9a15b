package coffer_test

import (
	"math/rand"
	"slices"
	"strings"
	"testing"

	"coffer/api"
	"coffer/coffer"
)

func checkCode(t *testing.T, ops []api.Op, want string) {
	t.Helper()
	if got, e, at := coffer.Encode(ops); got != want || e != api.OK || at != 0 {
		t.Errorf("P5: Encode(%s) = %.40x, %d, %d, want %.40x", short(ops), got, e, at, want)
	}
	if got, e, at := coffer.Decode(want); !slices.Equal(got, ops) || e != api.OK || at != 0 {
		t.Errorf("P5: Decode(%.40x) = %s, %d, %d, want %s", want, short(got), e, at, short(ops))
	}
}

func checkNoCode(t *testing.T, code string, want int) {
	t.Helper()
	if got, e, at := coffer.Decode(code); len(got) != 0 || e != api.ErrCode || at != want {
		t.Errorf("P5: Decode(%.40x), %d bytes = %s, %d, %d, want ErrCode, %d", code, len(code), short(got), e, at, want)
	}
}

func checkEncodeFault(t *testing.T, ops []api.Op, want int) {
	t.Helper()
	if got, e, at := coffer.Encode(ops); got != "" || e != api.ErrOp || at != want {
		t.Errorf("P5: Encode(%s) = %.40x, %d, %d, want ErrOp, %d", short(ops), got, e, at, want)
	}
}

func TestP5CodeThereAndBack(t *testing.T) {
	full := strings.Repeat("x", api.MaxText)
	checkCode(t, nil, "\x00")
	checkCode(t, []api.Op{part(0, 6), text("there")}, "\x02\x0d\x00\x0athere")
	checkCode(t, []api.Op{text("\x00\xff")}, "\x01\x04\x00\xff")
	checkCode(t, []api.Op{part(1, 63)}, "\x01\x7f\x01")
	checkCode(t, []api.Op{part(127, 64)}, "\x01\x81\x01\x7f")
	checkCode(t, []api.Op{part(128, 1)}, "\x01\x03\x80\x01")
	checkCode(t, []api.Op{text(full[:63])}, "\x01\x7e"+full[:63])
	checkCode(t, []api.Op{text(full[:64])}, "\x01\x80\x01"+full[:64])
	checkCode(t, []api.Op{text(full)}, "\x01\xa0\x1f"+full)
	checkCode(t, []api.Op{part(0, api.MaxText)}, "\x01\xa1\x1f\x00")
	checkCode(t, []api.Op{part(api.MaxText-1, 1)}, "\x01\x03\xcf\x0f")
	checkCode(t, []api.Op{part(0, 1), text("x"), part(1, 1), part(0, 1), part(0, 1)}, "\x05\x03\x00\x02x\x03\x01\x03\x00\x03\x00")
	checkCode(t, slices.Repeat([]api.Op{part(0, 1)}, api.MaxOps), "\xc8\x01"+strings.Repeat("\x03\x00", api.MaxOps))
}

func TestP5EncodeOfNoDelta(t *testing.T) {
	full := strings.Repeat("x", api.MaxText)
	for _, op := range []api.Op{
		{}, {From: 1}, {From: -1}, {Len: -1}, {Len: 1, Text: "x"}, {From: 1, Text: "x"}, {Len: -1, Text: "x"},
		{From: -1, Len: 1}, {Len: api.MaxText + 1}, {From: 1, Len: api.MaxText}, {From: api.MaxText, Len: 1},
		{Len: greatest}, {From: greatest, Len: 1}, {From: greatest, Len: greatest}, {Text: full + "x"},
	} {
		checkEncodeFault(t, []api.Op{op}, 0)
		checkEncodeFault(t, []api.Op{text("x"), part(5, 1), op, {}}, 2)
	}
	checkEncodeFault(t, []api.Op{text("x"), text("y"), {}}, 1)
	checkEncodeFault(t, []api.Op{part(0, 3), part(3, 3), {}}, 1)
	checkEncodeFault(t, []api.Op{text(full), part(0, 1)}, 1)
	checkEncodeFault(t, []api.Op{part(0, api.MaxText), text("x")}, 1)
	checkEncodeFault(t, slices.Repeat([]api.Op{part(0, 1)}, api.MaxOps+1), api.MaxOps)
	checkEncodeFault(t, slices.Repeat([]api.Op{part(0, 1)}, 3*api.MaxOps), api.MaxOps)
}

func TestP5NumbersThatAreNone(t *testing.T) {
	for _, none := range []string{
		"\x80\x00", "\x81\x00", "\x82\x80\x00", "\x83\x80\x80\x00", "\x84\x80\x80\x80\x00",
		"\x80\x80\x80\x80\x80", "\x80\x80\x80\x80\x80\x00", "\x81\x80\x80\x80\x08", "\xff\xff\xff\xff\x7f",
	} {
		checkNoCode(t, none, 0)                       // how many ops
		checkNoCode(t, "\x01"+none, 1)                // a length
		checkNoCode(t, "\x01\x03"+none, 2)            // From
		checkNoCode(t, "\x02\x02a"+none, 3)           // a length behind an op
		checkNoCode(t, "\x02\x03\x00\x05"+none, 4)    // From of a second COPY
		checkNoCode(t, "\x00"+none, 1)                // behind the code
		checkNoCode(t, "\x01\x03"+none+"\x00\x00", 2) // what stands behind it does not count
	}
}

func TestP5NumbersThatAreTooGreat(t *testing.T) {
	full := strings.Repeat("x", api.MaxText)
	const most = "\xff\xff\xff\xff\x07"
	// more than MaxOps ops; that they are not there comes later
	checkNoCode(t, "\xc9\x01", 0)
	checkNoCode(t, "\xc9\x01"+strings.Repeat("\x03\x00", api.MaxOps+1), 0)
	checkNoCode(t, most, 0)
	checkNoCode(t, "\xc8\x01", 2)
	// a length of 2001, of a TEXT and of a COPY
	checkNoCode(t, "\x01\xa2\x1f", 1)
	checkNoCode(t, "\x01\xa2\x1f"+full+"x", 1)
	checkNoCode(t, "\x01\xa3\x1f", 1)
	checkNoCode(t, "\x01\xa3\x1f\x00", 1)
	checkNoCode(t, "\x01"+most, 1)
	// 2000, of which the bytes or From are not there
	checkNoCode(t, "\x01\xa0\x1f", 3)
	checkNoCode(t, "\x01\xa1\x1f", 3)
	// From and length together
	checkNoCode(t, "\x01\x03\xd0\x0f", 2)
	checkNoCode(t, "\x01\xa1\x1f\x01", 3)
	checkNoCode(t, "\x01\x03"+most, 2)
	checkNoCode(t, "\x01\xa1\x1f"+most, 3)
}

func TestP5LengthsWithWhatTheOpsAheadMake(t *testing.T) {
	full := strings.Repeat("x", api.MaxText)
	checkCode(t, []api.Op{text("a"), part(0, api.MaxText-1)}, "\x02\x02a\x9f\x1f\x00")
	checkNoCode(t, "\x02\x02a\xa1\x1f\x00", 3)
	checkNoCode(t, "\x02\x02a\xa1\x1f", 3)
	checkCode(t, []api.Op{part(0, 1), text(full[1:])}, "\x02\x03\x00\x9e\x1f"+full[1:])
	checkNoCode(t, "\x02\x03\x00\xa0\x1f"+full, 3)
	checkNoCode(t, "\x02\xa1\x1f\x00\x02a", 4)
	checkNoCode(t, "\x03\x02a\x9f\x1f\x00\x02a", 6)
}

func TestP5NumbersThatStandForNoOp(t *testing.T) {
	checkNoCode(t, "\x01\x00", 1)
	checkNoCode(t, "\x01\x01", 1)
	checkNoCode(t, "\x01\x01\x00", 1)
	checkNoCode(t, "\x02\x02a\x00", 3)
	// two TEXTs side by side, told at the length, whether or not the bytes are there
	checkNoCode(t, "\x02\x02\x61\x02\x62", 3)
	checkNoCode(t, "\x02\x02a\x02", 3)
	checkNoCode(t, "\x03\x03\x00\x02a\x80\x01", 5)
	// a COPY that goes on the one ahead, told at From
	checkNoCode(t, "\x02\x03\x00\x03\x01", 4)
	checkNoCode(t, "\x02\x85\x01\xac\x02\x03\xee\x02", 6)
	checkCode(t, []api.Op{part(300, 66), part(365, 1)}, "\x02\x85\x01\xac\x02\x03\xed\x02")
	checkCode(t, []api.Op{part(300, 66), part(367, 1)}, "\x02\x85\x01\xac\x02\x03\xef\x02")
	checkCode(t, []api.Op{part(0, 1), text("a"), part(1, 1)}, "\x03\x03\x00\x02a\x03\x01")
}

func TestP5BytesBehindTheCode(t *testing.T) {
	checkNoCode(t, "\x00\x00", 1)
	checkNoCode(t, "\x00\x80", 1)
	checkNoCode(t, "\x01\x02ab", 3)
	checkNoCode(t, "\x01\x03\x00\x03\x05", 3)
	checkNoCode(t, "\x02\x0d\x00\x0athere"+strings.Repeat("x", 100000), 9)
}

func TestP5EachCodeThatIsCutOff(t *testing.T) {
	r := rand.New(rand.NewSource(5))
	for range 300 {
		ops := someDelta(r, r.Intn(api.MaxText))
		code, e, _ := coffer.Encode(ops)
		if e != api.OK {
			t.Fatalf("P5: Encode(%v) = %d", ops, e)
		}
		checkCode(t, ops, code)
		for n := range len(code) {
			checkNoCode(t, code[:n], n)
		}
		checkNoCode(t, code+"\x00", len(code))
	}
}

// plainNumber reads a number without giving up by a panic: rest is what stands behind it.
func plainNumber(code string) (number int, rest string, short, good bool) {
	for n := 1; n <= 5; n++ {
		if len(code) < n {
			return 0, "", true, false
		}
		number += int(code[n-1]&127) << (7 * (n - 1))
		if code[n-1] < 128 {
			return number, code[n:], false, number < 1<<31 && (n == 1 || code[n-1] != 0)
		}
	}
	return 0, "", false, false
}

// plainDecode asks of each number, as soon as it is there, whether the ops up to there can be a delta.
func plainDecode(code string) (ops []api.Op, at int, good bool) {
	place := func(rest string) int { return len(code) - len(rest) }
	count, rest, short, ok := plainNumber(code)
	if short {
		return nil, len(code), false
	}
	if !ok || count > api.MaxOps {
		return nil, 0, false
	}
	mayBe := func(op api.Op) bool {
		_, e, _ := coffer.Apply(strings.Repeat("x", api.MaxText), append(slices.Clone(ops), op))
		return e == api.OK
	}
	for range count {
		start := place(rest)
		length, behind, short, ok := plainNumber(rest)
		if short {
			return nil, len(code), false
		}
		made, _, _ := coffer.Apply(strings.Repeat("x", api.MaxText), ops)
		if !ok || length < 2 || len(made)+length/2 > api.MaxText {
			return nil, start, false
		}
		if length%2 == 0 {
			if !mayBe(text(strings.Repeat("x", length/2))) {
				return nil, start, false
			}
			if len(behind) < length/2 {
				return nil, len(code), false
			}
			ops = append(ops, text(behind[:length/2]))
			rest = behind[length/2:]
			continue
		}
		start = place(behind)
		from, behind, short, ok := plainNumber(behind)
		if short {
			return nil, len(code), false
		}
		if !ok || !mayBe(part(from, length/2)) {
			return nil, start, false
		}
		ops = append(ops, part(from, length/2))
		rest = behind
	}
	return ops, place(rest), rest == ""
}

func TestP5DecodeIsWhatTheWordsSay(t *testing.T) {
	r := rand.New(rand.NewSource(55))
	bytes := []byte{0, 1, 2, 3, 4, 5, 6, 7, 0x0f, 0x1f, 0x61, 0x7f, 0x80, 0x81, 0xa0, 0xa1, 0xc8, 0xc9, 0xd0, 0xff}
	good := 0
	for range 60000 {
		code := ""
		if r.Intn(3) > 0 {
			code, _, _ = coffer.Encode(someDelta(r, r.Intn(api.MaxText)))
			code = code[:min(len(code), r.Intn(40))]
		}
		drawn := []byte(code)
		for range r.Intn(8) {
			b := bytes[r.Intn(len(bytes))]
			if at := r.Intn(len(drawn) + 1); at < len(drawn) {
				drawn[at] = b
			} else {
				drawn = append(drawn, b)
			}
		}
		want, at, ok := plainDecode(string(drawn))
		if !ok {
			checkNoCode(t, string(drawn), at)
			continue
		}
		good++
		checkCode(t, want, string(drawn))
	}
	if good < 100 {
		t.Errorf("P5: only %d of what was drawn were codes", good)
	}
}
