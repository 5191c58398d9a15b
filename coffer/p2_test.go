package coffer_test

import (
	"slices"
	"strings"
	"testing"

	"coffer/api"
	"coffer/coffer"
)

const p2Base = "0123456789abcdefghij"

func TestP2ApplyWritesIntoNoList(t *testing.T) {
	for _, ops := range [][]api.Op{
		{part(0, 6), text("there")},
		{part(0, 6), part(6, 2)},
		{text("a"), text("b")},
		{{}, text("b")},
	} {
		// spare room behind the end, and something in it that must stay
		whole := slices.Concat(ops, []api.Op{text("spare"), part(1, 1)})
		was := slices.Clone(whole)
		coffer.Apply(p2Base, whole[:len(ops)])
		if !slices.Equal(whole, was) {
			t.Errorf("P2: Apply made %v of %v", whole, was)
		}
	}
}

func TestP2ApplyKeepsNoList(t *testing.T) {
	ops := []api.Op{part(0, 6), text("there")}
	made, _, _ := coffer.Apply("hello world", ops)
	ops[0], ops[1] = text("x"), part(0, 1)
	if made != "hello there" {
		t.Errorf("P2: what was made became %q", made)
	}
	if again, e, _ := coffer.Apply("hello world", ops); again != "xh" || e != api.OK {
		t.Errorf("P2: Apply of the changed list = %q, %d", again, e)
	}
}

func TestP2DiffGivesNewMemory(t *testing.T) {
	many := strings.Repeat("01234567-", 101)
	for _, next := range []string{p2Base, "x" + p2Base, p2Base + "x", "x", many} {
		want, _ := coffer.Diff(p2Base, next)
		want = slices.Clone(want)
		spoilt, _ := coffer.Diff(p2Base, next)
		kept, _ := coffer.Diff(p2Base, next)
		for i := range spoilt[:cap(spoilt)] {
			spoilt[:cap(spoilt)][i] = text("spoilt")
		}
		spare := slices.Clone(kept[:cap(kept)])
		again, _ := coffer.Diff(p2Base, next)
		if !slices.Equal(kept, want) || !slices.Equal(again, want) {
			t.Errorf("P2: Diff(%q, %.20q): a list that was spoilt shows in another: %v, %v, want %v", p2Base, next, kept, again, want)
		}
		if slices.Contains(spare, text("spoilt")) || slices.Contains(again[:cap(again)], text("spoilt")) {
			t.Errorf("P2: Diff(%q, %.20q): two lists share spare room", p2Base, next)
		}
	}
}

func TestP2CallsHangOnTheirArgumentsAlone(t *testing.T) {
	sum := coffer.Sum("123456789")
	ops, _ := coffer.Diff(p2Base, "x"+p2Base)
	made, _, _ := coffer.Apply(p2Base, ops)
	for _, a := range oddTexts() {
		coffer.Sum(a)
		coffer.Diff(a, p2Base)
		coffer.Diff(p2Base, a)
		coffer.Apply(a, ops)
		if s := coffer.Sum("123456789"); s != sum {
			t.Fatalf("P2: Sum became %x behind %.20q", s, a)
		}
		if l, e := coffer.Diff(p2Base, "x"+p2Base); !slices.Equal(l, ops) || e != api.OK {
			t.Fatalf("P2: Diff became %v, %d behind %.20q", l, e, a)
		}
		if s, e, at := coffer.Apply(p2Base, ops); s != made || e != api.OK || at != 0 {
			t.Fatalf("P2: Apply became %q, %d, %d behind %.20q", s, e, at, a)
		}
	}
}
