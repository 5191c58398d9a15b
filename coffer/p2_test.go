package coffer_test

import (
	"slices"
	"strings"
	"testing"

	"coffer/api"
	"coffer/coffer"
)

const p2Base = "0123456789abcdefghij"

func TestP2NoListIsWrittenInto(t *testing.T) {
	for _, ops := range [][]api.Op{
		{part(0, 6), text("there")},
		{part(0, 6), text("there"), part(6, 2)},
		{part(0, 6), part(6, 2)},
		{text("a"), text("b")},
		{{}, text("b")},
	} {
		// spare room behind the end, and something in it that must stay
		whole := slices.Concat(ops, []api.Op{text("spare"), part(1, 1)})
		was := slices.Clone(whole)
		list := whole[:len(ops)]
		coffer.Apply(p2Base, list)
		coffer.Encode(list)
		coffer.Compose(list, []api.Op{part(0, 7), text("x")})
		coffer.Compose([]api.Op{part(3, 17)}, list)
		coffer.Compose(list, list)
		if !slices.Equal(whole, was) {
			t.Errorf("P2: what was handed in became %v, was %v", whole, was)
		}
	}
}

func TestP2ApplyKeepsNoList(t *testing.T) {
	ops := []api.Op{part(0, 6), text("there")}
	made, _, _ := coffer.Apply("hello world", ops)
	ops[0], ops[1] = text("x"), part(0, 1)
	if made != "hello there" {
		t.Errorf("P2: what was made became %q", made)
	}
	if again, e, _ := coffer.Apply("hello world", ops); again != "xh" || e != api.OK {
		t.Errorf("P2: Apply of the changed list = %q, %d", again, e)
	}
}

// checkNewMemory spoils one answer of a call, with its spare room, and looks for that in the others.
func checkNewMemory(t *testing.T, name string, call func() []api.Op) {
	t.Helper()
	want := slices.Clone(call())
	spoilt, kept := call(), call()
	for i := range spoilt[:cap(spoilt)] {
		spoilt[:cap(spoilt)][i] = text("spoilt")
	}
	again := call()
	if !slices.Equal(kept, want) || !slices.Equal(again, want) {
		t.Errorf("P2: %s: a list that was spoilt shows in another: %v, %v, want %v", name, kept, again, want)
	}
	if slices.Contains(kept[:cap(kept)], text("spoilt")) || slices.Contains(again[:cap(again)], text("spoilt")) {
		t.Errorf("P2: %s: two lists share spare room", name)
	}
}

func TestP2DiffGivesNewMemory(t *testing.T) {
	many := strings.Repeat("01234567-", 101)
	for _, next := range []string{p2Base, "x" + p2Base, p2Base + "x", "x", many} {
		checkNewMemory(t, "Diff", func() []api.Op {
			ops, _ := coffer.Diff(p2Base, next)
			return ops
		})
	}
}

func TestP2DecodeGivesNewMemory(t *testing.T) {
	for _, code := range []string{"\x00", "\x01\x02a", "\x02\x0d\x00\x0athere", "\x03\x02a\x03\x00\x02a"} {
		checkNewMemory(t, "Decode", func() []api.Op {
			ops, _, _ := coffer.Decode(code)
			return ops
		})
	}
}

func TestP2ComposeGivesNewMemory(t *testing.T) {
	for _, c := range [][2][]api.Op{
		{nil, nil},
		{nil, {text("a")}},
		{{part(0, 6), text("there")}, {part(0, 11)}},
		{{text("there")}, {part(0, 5)}},
		{{part(0, 6), text("there")}, {part(3, 5), text("x"), part(0, 1)}},
	} {
		first, second := slices.Clone(c[0]), slices.Clone(c[1])
		checkNewMemory(t, "Compose", func() []api.Op {
			ops, _, _ := coffer.Compose(first, second)
			return ops
		})
		if !slices.Equal(first, c[0]) || !slices.Equal(second, c[1]) {
			t.Errorf("P2: an answer of Compose shares memory with what was handed in: %v, %v", first, second)
		}
	}
}

func TestP2CallsHangOnTheirArgumentsAlone(t *testing.T) {
	sum := coffer.Sum("123456789")
	ops, _ := coffer.Diff(p2Base, "x"+p2Base)
	made, _, _ := coffer.Apply(p2Base, ops)
	code, _, _ := coffer.Encode(ops)
	for _, a := range oddTexts() {
		coffer.Sum(a)
		coffer.Diff(a, p2Base)
		coffer.Diff(p2Base, a)
		coffer.Apply(a, ops)
		coffer.Decode(a)
		coffer.Encode([]api.Op{text(a)})
		coffer.Compose([]api.Op{text(a)}, ops)
		if s := coffer.Sum("123456789"); s != sum {
			t.Fatalf("P2: Sum became %x behind %.20q", s, a)
		}
		if l, e := coffer.Diff(p2Base, "x"+p2Base); !slices.Equal(l, ops) || e != api.OK {
			t.Fatalf("P2: Diff became %v, %d behind %.20q", l, e, a)
		}
		if s, e, at := coffer.Apply(p2Base, ops); s != made || e != api.OK || at != 0 {
			t.Fatalf("P2: Apply became %q, %d, %d behind %.20q", s, e, at, a)
		}
		if l, e, at := coffer.Decode(code); !slices.Equal(l, ops) || e != api.OK || at != 0 {
			t.Fatalf("P2: Decode became %v, %d, %d behind %.20q", l, e, at, a)
		}
		if s, e, at := coffer.Encode(ops); s != code || e != api.OK || at != 0 {
			t.Fatalf("P2: Encode became %x, %d, %d behind %.20q", s, e, at, a)
		}
		if l, e, at := coffer.Compose(ops, []api.Op{part(0, 21)}); !slices.Equal(l, ops) || e != api.OK || at != 0 {
			t.Fatalf("P2: Compose became %v, %d, %d behind %.20q", l, e, at, a)
		}
	}
}

func TestP2VaultsAreApart(t *testing.T) {
	one, other := coffer.New(), coffer.New()
	checkBackup(t, one, 0, "a text of one", 1, api.OK)
	if got, empty := allTold(other), allTold(coffer.New()); got != empty {
		t.Errorf("P2: another Vault tells %v", got)
	}
	checkBackup(t, other, 0, "a text of the other", 1, api.OK)
	checkBackup(t, other, 0, "a text of the other, and more", 2, api.OK)
	was := allTold(other)
	for i := range 20 {
		checkBackup(t, one, 0, strings.Repeat("x", i), i+2, api.OK)
		checkPrune(t, one, 0, i+1, api.OK)
	}
	if got := allTold(other); got != was {
		t.Errorf("P2: the other Vault tells %v, told %v", got, was)
	}
}

func TestP2OpenedVaultsAreApart(t *testing.T) {
	log := plainFull(0, "gone") + plainFull(0, "a text of bytes") + plainPrune(0, 2) + plainBeginning(2, 7, "other")
	one, other := checkOpen(t, log, len(log)), checkOpen(t, log, len(log))
	was := allTold(other)
	one.Squash()
	checkBackup(t, one, 0, "a text of bytes!", 3, api.OK)
	checkBackup(t, one, 2, "more", 8, api.OK)
	checkPrune(t, one, 0, 3, api.OK)
	if got := allTold(other); got != was {
		t.Errorf("P2: the other Vault tells %v, told %v", got, was)
	}
	if got := allTold(checkOpen(t, log, len(log))); got != was {
		t.Errorf("P2: one that is opened later tells %v, want %v", got, was)
	}
	if got, empty := allTold(coffer.New()), (told{}); got != empty {
		t.Errorf("P2: a new Vault tells %v", got)
	}
}

func TestP2ASquashLeavesWhatWasTold(t *testing.T) {
	v := coffer.New()
	v.Backup(0, "gone")
	v.Backup(0, "a text")
	v.Prune(0, 2)
	log := v.Log()
	was := strings.Clone(log)
	v.Squash()
	squashed := v.Log()
	wasSquashed := strings.Clone(squashed)
	v.Backup(0, "another text")
	v.Prune(0, 3)
	v.Squash()
	if log != was || squashed != wasSquashed {
		t.Errorf("P2: what was told became %x, %x", log, squashed)
	}
}

func TestP2WhatAVaultToldStays(t *testing.T) {
	v := coffer.New()
	v.Backup(0, "the first text")
	log := v.Log()
	first, _ := v.Restore(0, 1)
	wasLog, wasFirst := strings.Clone(log), strings.Clone(first)
	for range 20 {
		v.Backup(0, "another text")
	}
	v.Prune(0, 20)
	if log != wasLog || first != wasFirst {
		t.Errorf("P2: what was told became %x, %q", log, first)
	}
}

func TestP2OtherCallsHangOnNoVault(t *testing.T) {
	ops, _ := coffer.Diff(p2Base, "x"+p2Base)
	v := filled(t, 100)
	v.Backup(0, p2Base)
	if again, e := coffer.Diff(p2Base, "x"+p2Base); !slices.Equal(again, ops) || e != api.OK {
		t.Errorf("P2: Diff became %v, %d", again, e)
	}
	if got, empty := allTold(coffer.New()), (told{}); got != empty {
		t.Errorf("P2: a new Vault tells %v", got)
	}
}
