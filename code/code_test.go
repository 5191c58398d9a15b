package code

import "testing"

// tried runs a reading and tells the place at which it gave up, or -1.
func tried(read func()) (at int) {
	at = -1
	defer func() {
		if fault, gaveUp := recover().(Fault); gaveUp {
			at = fault.At
		}
	}()
	read()
	return at
}

func TestNumbersThereAndBack(t *testing.T) {
	for number, want := range map[int]string{
		0: "\x00", 1: "\x01", 127: "\x7f", 128: "\x80\x01", 300: "\xac\x02", 2000: "\xd0\x0f",
		1<<14 - 1: "\xff\x7f", 1 << 14: "\x80\x80\x01", 1<<21 - 1: "\xff\xff\x7f", 1 << 21: "\x80\x80\x80\x01",
		1<<28 - 1: "\xff\xff\xff\x7f", 1 << 28: "\x80\x80\x80\x80\x01", MaxNumber: "\xff\xff\xff\xff\x07",
	} {
		bytes := string(AddNumber([]byte("ahead"), number))
		if bytes != "ahead"+want {
			t.Errorf("P5: the code of %d = %x, want %x behind 'ahead'", number, bytes, want)
		}
		r := NewReader(bytes + "behind")
		if ahead := r.Text(5); ahead != "ahead" {
			t.Errorf("P5: the text ahead = %q", ahead)
		}
		if got := r.Number(); got != number || r.At() != len(bytes) {
			t.Errorf("P5: the number of %x = %d, up to %d, want %d, up to %d", bytes, got, r.At(), number, len(bytes))
		}
	}
}

func TestNumbersThatAreNone(t *testing.T) {
	for _, c := range []struct {
		bytes string
		at    int
	}{
		{"", 0}, {"\x80", 1}, {"\xff\xff", 2}, {"\x80\x80\x80\x80", 4},
		{"\x80\x00", 0}, {"\xff\x00", 0}, {"\x80\x80\x00", 0}, {"\xff\xff\xff\xff\x00", 0},
		{"\x80\x80\x80\x80\x08", 0}, {"\xff\xff\xff\xff\x0f", 0}, {"\x80\x80\x80\x80\x10", 0}, {"\x80\x80\x80\x80\x7f", 0},
		{"\x80\x80\x80\x80\x80", 0}, {"\x80\x80\x80\x80\x80\x01", 0}, {"\xff\xff\xff\xff\xff", 0},
	} {
		if at := tried(func() { NewReader(c.bytes).Number() }); at != c.at {
			t.Errorf("P5: the number of %x gives up at %d, want %d", c.bytes, at, c.at)
		}
		behind := NewReader("two" + c.bytes)
		behind.Text(3)
		if at := tried(func() { behind.Number() }); at != 3+c.at {
			t.Errorf("P5: behind three bytes the number of %x gives up at %d, want %d", c.bytes, at, 3+c.at)
		}
	}
}

func TestTextAndEnd(t *testing.T) {
	r := NewReader("abcdef")
	if got := r.Text(0) + r.Text(2) + "-" + r.Text(3); got != "ab-cde" {
		t.Errorf("P5: the texts are %q", got)
	}
	if at := tried(func() { r.Text(2) }); at != 6 {
		t.Errorf("P5: a text that is too long gives up at %d", at)
	}
	if at := tried(r.End); at != 5 {
		t.Errorf("P5: bytes behind the end give up at %d", at)
	}
	r.Text(1)
	if at := tried(r.End); at != -1 {
		t.Errorf("P5: nothing behind the end gives up at %d", at)
	}
}

func TestByteAndRest(t *testing.T) {
	r := NewReader("abc")
	if b := r.Byte(); b != 'a' || r.At() != 1 || r.AtEnd() {
		t.Errorf("P9: the byte is %q, up to %d", b, r.At())
	}
	if rest := r.Rest(); rest != "bc" || !r.AtEnd() {
		t.Errorf("P9: the rest is %q, up to %d", rest, r.At())
	}
	if rest := r.Rest(); rest != "" || !r.AtEnd() {
		t.Errorf("P9: the rest behind the end is %q", rest)
	}
	if at := tried(func() { r.Byte() }); at != 3 {
		t.Errorf("P9: a byte behind the end gives up at %d", at)
	}
}
