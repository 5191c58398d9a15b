package delta

import (
	"maps"
	"strings"
	"testing"

	"coffer/api"
)

func TestFirstPlaces(t *testing.T) {
	for _, c := range []struct {
		base string
		want map[string]int
	}{
		{"", map[string]int{}},
		{"1234567", map[string]int{}},
		{"12345678", map[string]int{"12345678": 0}},
		{"123456789", map[string]int{"12345678": 0, "23456789": 1}},
		{strings.Repeat("a", 20), map[string]int{"aaaaaaaa": 0}},
		{"x" + strings.Repeat("a", 9), map[string]int{"xaaaaaaa": 0, "aaaaaaaa": 1}},
	} {
		if got := firstPlaces(c.base); !maps.Equal(got, c.want) {
			t.Errorf("P3: firstPlaces(%q) = %v, want %v", c.base, got, c.want)
		}
	}
}

func TestSameBytes(t *testing.T) {
	for _, c := range []struct {
		a, b string
		want int
	}{
		{"", "", 0}, {"", "x", 0}, {"x", "", 0}, {"x", "y", 0}, {"xa", "xb", 1}, {"abc", "abc", 3}, {"abc", "abcd", 3}, {"abcd", "abc", 3},
	} {
		if got := sameBytes(c.a, c.b); got != c.want {
			t.Errorf("P3: sameBytes(%q, %q) = %d, want %d", c.a, c.b, got, c.want)
		}
	}
}

func TestIsOp(t *testing.T) {
	const greatest = int(^uint(0) >> 1)
	const least = -greatest - 1
	for _, c := range []struct {
		op   api.Op
		want bool
	}{
		{api.Op{Text: "x"}, true},
		{api.Op{Text: "\x00"}, true},
		{api.Op{From: 0, Len: 3}, true},
		{api.Op{From: 2, Len: 1}, true},
		{api.Op{}, false},
		{api.Op{From: 1}, false},
		{api.Op{From: 0, Len: 4}, false},
		{api.Op{From: 2, Len: 2}, false},
		{api.Op{From: 3, Len: 1}, false},
		{api.Op{From: -1, Len: 1}, false},
		{api.Op{From: least, Len: 1}, false},
		{api.Op{From: 1, Len: greatest}, false},
		{api.Op{From: greatest, Len: 1}, false},
		{api.Op{From: greatest, Len: greatest}, false},
		{api.Op{From: least, Len: greatest}, false},
		{api.Op{Len: 1, Text: "x"}, false},
		{api.Op{From: 1, Text: "x"}, false},
		{api.Op{From: -1, Text: "x"}, false},
		{api.Op{Len: -1, Text: "x"}, false},
		{api.Op{Len: least, Text: "x"}, false},
		{api.Op{Len: least}, false},
	} {
		if got := isOp(c.op, 3); got != c.want {
			t.Errorf("P3: isOp(%v, 3) = %v", c.op, got)
		}
	}
}
