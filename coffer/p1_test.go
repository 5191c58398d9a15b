package coffer_test

import (
	"fmt"
	"slices"
	"strings"
	"testing"

	"coffer/api"
	"coffer/coffer"
)

const (
	greatest = int(^uint(0) >> 1)
	least    = -greatest - 1
)

func text(s string) api.Op { return api.Op{Text: s} }

func part(from, length int) api.Op { return api.Op{From: from, Len: length} }

// short shows ops, or as much of them as one line may have.
func short(ops []api.Op) string { return fmt.Sprintf("%.100s", fmt.Sprint(ops)) }

// oddTexts: the empty one, all kinds of bytes, and lengths around each bound.
func oddTexts() []string {
	every := make([]byte, 256)
	for i := range every {
		every[i] = byte(i)
	}
	texts := []string{"", "a", "\x00", "\xff\xfe", "123456789", string(every)}
	for _, n := range []int{api.MinCopy, api.MaxText, api.MaxLog} {
		for _, length := range []int{n - 1, n, n + 1} {
			texts = append(texts, strings.Repeat("x", length))
		}
	}
	return append(texts, strings.Repeat("x", 1000000))
}

// oddNumbers: around 0, around each bound, and the ends of what an int can be.
func oddNumbers() []int {
	return []int{least, least + 1, -1, 0, 1, 2, api.MaxChains - 1, api.MaxChains, api.MinCopy, api.MaxText, api.MaxText + 1, 1<<31 - 1, 1 << 31, greatest - 1, greatest}
}

func oddLists() [][]api.Op {
	lists := [][]api.Op{nil, {}, slices.Repeat([]api.Op{part(0, 1)}, 100000)}
	for _, from := range oddNumbers() {
		for _, length := range oddNumbers() {
			for _, s := range []string{"", "x", strings.Repeat("x", api.MaxText+1)} {
				op := api.Op{From: from, Len: length, Text: s}
				lists = append(lists, []api.Op{op}, []api.Op{part(0, 1), op}, []api.Op{text("y"), op, op})
			}
		}
	}
	return lists
}

func TestP1NoCallPanicsOnTexts(t *testing.T) {
	for _, a := range oddTexts() {
		coffer.Sum(a)
		coffer.Open(a)
		ops, e, at := coffer.Decode(a)
		if e != api.OK && len(ops) != 0 || e == api.OK && at != 0 {
			t.Errorf("P1: Decode(%.20q) = %s, %d, %d", a, short(ops), e, at)
		}
		for _, b := range oddTexts() {
			if ops, e := coffer.Diff(a, b); e != api.OK && len(ops) != 0 {
				t.Errorf("P1: Diff(%.20q, %.20q) tells %d ops beside the error %d", a, b, len(ops), e)
			}
		}
	}
}

func TestP1NoCallPanicsOnLists(t *testing.T) {
	for _, ops := range oddLists() {
		code, e, at := coffer.Encode(ops)
		if e != api.OK && code != "" || e == api.OK && at != 0 {
			t.Errorf("P1: Encode(%s) = %.20x, %d, %d", short(ops), code, e, at)
		}
		for _, second := range [][]api.Op{nil, {part(0, 1)}, ops} {
			made, e, at := coffer.Compose(ops, second)
			if e != api.OK && len(made) != 0 || e == api.OK && at != 0 {
				t.Errorf("P1: Compose(%s, %s) = %s, %d, %d", short(ops), short(second), short(made), e, at)
			}
		}
		for _, base := range oddTexts() {
			made, e, at := coffer.Apply(base, ops)
			if e != api.OK && made != "" {
				t.Errorf("P1: Apply(%.20q, %s) tells a text beside the error %d", base, short(ops), e)
			}
			if e == api.OK && at != 0 {
				t.Errorf("P1: Apply(%.20q, %s) tells the place %d beside OK", base, short(ops), at)
			}
		}
	}
}

// checkMethods makes every call of a Vault, and looks at what stands beside the errors.
func checkMethods(t *testing.T, v *coffer.Vault, chain int) {
	t.Helper()
	if first, last, e := v.Versions(chain); e != api.OK && (first != 0 || last != 0) {
		t.Errorf("P1: Versions(%d) = %d, %d beside the error %d", chain, first, last, e)
	}
	for _, s := range oddTexts() {
		if version, e := v.Backup(chain, s); e != api.OK && version != 0 {
			t.Errorf("P1: Backup(%d, %.20q) = %d beside the error %d", chain, s, version, e)
		}
	}
	for _, version := range oddNumbers() {
		if s, e := v.Restore(chain, version); e != api.OK && s != "" {
			t.Errorf("P1: Restore(%d, %d) = %.20q beside the error %d", chain, version, s, e)
		}
		v.Prune(chain, version)
	}
}

func TestP1NoMethodPanics(t *testing.T) {
	opened, _, _ := coffer.Open("")
	for _, v := range []*coffer.Vault{coffer.New(), opened, filled(t, 0), filled(t, 100)} {
		for _, chain := range oddNumbers() {
			checkMethods(t, v, chain)
		}
		v.Squash()
		v.Log()
	}
}

func TestP1TheErrorNamedFirst(t *testing.T) {
	long := strings.Repeat("x", api.MaxText+1)
	for _, ops := range [][]api.Op{nil, {{}}, {text("x"), {}}, {part(0, len(long))}} {
		if s, e, at := coffer.Apply(long, ops); s != "" || e != api.ErrLong || at != 0 {
			t.Errorf("P1: Apply of a long base and %v = %.20q, %d, %d", ops, s, e, at)
		}
	}
}
